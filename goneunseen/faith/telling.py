"""What a check tells in a base: its answers from all rows and from the living rows."""

from goneunseen.ask.joins import Join
from goneunseen.ask.told import check_how_many, how_many_combinations
from goneunseen.base.bases import different_rows, has_gone
from goneunseen.scheme.tables import picked


class Telling:
    """A check as its answers are asked for, from all rows and from the living rows of one base after another."""

    def __init__(self, head, triples, parts):
        self._head = head
        # The triples of the places and of each part. Their joins are made when they are needed first.
        self._triples = [triples, *parts]
        self._joins = {}
        # What was found in the base that was asked about last.
        self._base = None
        self._values = {}
        self._answers = {}

    def answers_in(self, base, living):
        """The ascending tuple of the answers that no part bars; raises an error if there are too many combinations."""
        if not self._base == base:
            self._check_combinations(base)
            self._base, self._values, self._answers = base, {}, {}
        if living not in self._answers:
            self._answers[living] = self._answers_left(living)
        return self._answers[living]

    def _check_combinations(self, base):
        """Raises an error if the places, alone or with one of the parts, have too many combinations of rows."""
        many = [how_many_combinations(base, triples) for triples in self._triples]
        check_how_many(many[0])
        for more in many[1:]:
            check_how_many(many[0] * more)

    def _answers_left(self, living):
        left = list(self._values_of(0, living))
        for number in range(1, len(self._triples)):
            # Without any answer the combinations of a part can be too many.
            barred = self._values_of(number, living) if left else {}
            if barred:
                _, spots = self._join_of(number)
                left = [answer for answer in left if picked(answer, spots) not in barred]
        return tuple(sorted(left))

    def _values_of(self, number, living):
        """A dict from the values that the places or a part have to True."""
        base, triples = self._base, self._triples[number]
        # Where free places have no gone rows, all rows tell what the living ones do.
        is_alike = living or not any([has_gone(base, source) for source, _, filtered in triples if not filtered])
        mark = (number, is_alike)
        if mark not in self._values:
            rows = [different_rows(base, source, is_alike or filtered) for source, _, filtered in triples]
            # Most often a place without rows spares the join.
            found = self._join_of(number)[0].values_in(rows) if all(rows) else []
            self._values[mark] = {values: True for values in found}
        return self._values[mark]

    def _join_of(self, number):
        """The join of the places or of a part, and where the values stand in the head that are asked of it."""
        if number not in self._joins:
            head, triples = self._head, self._triples[number]
            spots, asked = (), head
            if number > 0:
                # The head has all variables that a part shares with the places.
                inside = [term for _, terms, _ in triples for term in terms if isinstance(term, str)]
                spots = [at for at, term in enumerate(head) if term in inside and head.index(term) == at]
                asked = tuple([head[at] for at in spots])
            self._joins[number] = (Join(triples, asked), spots)
        return self._joins[number]
