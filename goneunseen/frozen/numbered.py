"""Numbered rows: the rows of a rule's places, and what steps make of them."""

from goneunseen.scheme.schemes import plans_of
from goneunseen.scheme.tables import picked


class Numbered:
    """Rows with numbers, whose terms can be equated; rows that become one keep all their numbers.

    The first ones are told by triples of a table, terms, and whether the row is living.
    """

    def __init__(self, scheme, triples):
        self._plans = plans_of(scheme)
        self._sources = [source for source, _, _ in triples]
        self._written = [terms for _, terms, _ in triples]
        self._are_living = [is_living for _, _, is_living in triples]
        # For each number the least one of its row, and for each term that is equated the one that is told for it.
        self._firsts = list(range(len(triples)))
        self._ends = {}
        self._added_by = []
        self._made = 0
        self._is_empty = False

    def how_many(self):
        """How many numbers there are."""
        return len(self._sources)

    def how_many_equated(self):
        """How many terms another one is told for."""
        return len(self._ends)

    def is_empty(self):
        """Whether two different integers are equated."""
        return self._is_empty

    def referring(self):
        """For each row behind those of the places the number of the row that refers to it, and by which reference."""
        return list(self._added_by)

    def source_of(self, number):
        """The name of the table of a row."""
        return self._sources[number]

    def reference_of(self, number, index):
        """The columns and the target of a reference of a row."""
        return self._plans[self._sources[number]][3][index]

    def first_of(self, number):
        """The least number of a row."""
        return self._firsts[number]

    def is_living(self, number):
        """Whether a row is living."""
        return self._are_living[self._firsts[number]]

    def are_living(self, many):
        """Whether as many of the first rows are living."""
        return all([self._are_living[first] for first in self._firsts[:many]])

    def ends_of(self, terms):
        """The terms that are told for these terms."""
        ends = self._ends
        # Most often nothing is equated at all.
        return tuple([ends.get(term, term) for term in terms]) if ends else terms

    def terms_of(self, number):
        """The terms of a row, as they are told."""
        return self.ends_of(self._written[number])

    def by_table(self, only_living):
        """A dict from the names of tables to the pairs of terms and number of their rows, or of the living ones."""
        found = {}
        for number, source in enumerate(self._sources):
            if not only_living or self._are_living[self._firsts[number]]:
                found.setdefault(source, []).append((self.ends_of(self._written[number]), number))
        return found

    def can_do(self, step):
        """Whether a step is possible now."""
        word, first, second = step
        if word == "same":
            return 0 <= first < second < len(self._sources) and self._can_be_one(first, second)
        if not 0 <= first < len(self._sources) or not self.is_living(first):
            return False
        return 0 <= second < len(self._plans[self._sources[first]][3])

    def do_step(self, step):
        """Does a step that is possible."""
        word, first, second = step
        if word == "same":
            self._make_one(first, second)
        else:
            self._refer(first, second)

    def merge_once(self):
        """Makes rows one, in one pass over all of them; the steps that were done."""
        marked, done = {}, []
        # Very often each row is the only one of its table.
        if len(set(self._sources)) == len(self._sources):
            return done
        for number in range(len(self._sources)):
            _, columns, is_all, _ = self._plans[self._sources[number]]
            if is_all or self._are_living[self._firsts[number]]:
                mark = (self._sources[number], self.ends_of(picked(self._written[number], columns)))
                first = self._firsts[marked.setdefault(mark, number)]
                if first != self._firsts[number]:
                    self._make_one(first, number)
                    done.append(("same", first, number))
        return done

    def refer_all(self):
        """Adds the rows to which living rows refer, also through others, unless they are there.

        It is called where no rows can become one, and tells the steps that were done, and whether two rows can now: an
        added row differs from all living ones by its key, but a gone row can have it.
        """
        living = [number for number, first in enumerate(self._firsts) if first == number and self._are_living[number]]
        if not any([self._plans[self._sources[number]][3] for number in living]):
            return [], False
        there = {self._mark_of(number): True for number in living}
        done, at = [], 0
        while at < len(living):
            number = living[at]
            references = self._plans[self._sources[number]][3]
            for index, (columns, target) in enumerate(references):
                mark = (target, self.ends_of(picked(self._written[number], columns)))
                if mark not in there:
                    there[mark] = True
                    living.append(len(self._sources))
                    self._refer(number, index)
                    done.append(("refers", number, index))
            at += 1
        return done, bool(done) and any([mark in there for mark in self._marks_of_gone()])

    def _mark_of(self, number):
        """The table and the key of a row: by these, living rows are told apart."""
        source = self._sources[number]
        return source, self.ends_of(picked(self._written[number], self._plans[source][1]))

    def _marks_of_gone(self):
        """The marks of the gone rows whose keys bar others."""
        return [
            self._mark_of(number) for number, source in enumerate(self._sources)
            if self._plans[source][2] and not self.is_living(number)]

    def _can_be_one(self, first, second):
        if self._mark_of(first) != self._mark_of(second):
            return False
        return self._plans[self._sources[first]][2] or (self.is_living(first) and self.is_living(second))

    def _make_one(self, first, second):
        ends = self._ends
        for term, other in zip(self._written[first], self._written[second]):
            if term != other:
                self._equate(ends.get(term, term), ends.get(other, other))
        kept, other = sorted([self._firsts[first], self._firsts[second]])
        self._are_living[kept] = self._are_living[kept] or self._are_living[other]
        self._firsts = [kept if number == other else number for number in self._firsts]

    def _equate(self, first, second):
        if first == second:
            return
        if isinstance(first, int) and isinstance(second, int):
            self._is_empty = True
        elif _is_ahead(second, first):
            first, second = second, first
        ends = self._ends
        others = [term for term in ends if ends[term] == second]
        for term in [*others, second]:
            ends[term] = first

    def _refer(self, number, index):
        columns, target = self._plans[self._sources[number]][3][index]
        width, key, _, _ = self._plans[target]
        told = dict(zip(key, self.ends_of(picked(self._written[number], columns))))
        self._added_by.append((number, index))
        self._firsts.append(len(self._sources))
        self._are_living.append(True)
        self._sources.append(target)
        self._written.append(tuple([told[column] if column in told else self._new_term() for column in range(width)]))

    def _new_term(self):
        self._made += 1
        return str(self._made)


def _is_ahead(first, second):
    """Whether the first of two different terms is told for both: an integer, the least variable, the first new term."""
    if isinstance(first, int) or isinstance(second, int):
        return isinstance(first, int)
    if first.isdigit() and second.isdigit():
        return int(first) < int(second)
    # Of a variable and a new term it is the variable.
    return not first.isdigit() and (second.isdigit() or first < second)
