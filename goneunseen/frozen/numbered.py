"""Numbered rows: the rows of a rule's places, and what steps make of them."""

from goneunseen.scheme.names import is_name
from goneunseen.scheme.schemes import tables_by_name
from goneunseen.scheme.tables import picked


class Numbered:
    """Rows with numbers, whose terms can be equated; rows that become one keep all their numbers.

    The first ones are told by triples of a table, terms, and whether the row is living.
    """

    def __init__(self, scheme, triples):
        self._by_name = tables_by_name(scheme)
        self._tables = [self._by_name[source] for source, _, _ in triples]
        self._written = [terms for _, terms, _ in triples]
        self._are_living = [is_living for _, _, is_living in triples]
        self._one_with = list(range(len(triples)))
        self._stands_for = {}
        self._referring = []
        self._made = 0
        self._is_empty = False

    def how_many(self):
        """How many numbers there are."""
        return len(self._tables)

    def is_empty(self):
        """Whether two different integers are equated."""
        return self._is_empty

    def referring(self):
        """For each row behind those of the places the number of the row that refers to it, and by which reference."""
        return list(self._referring)

    def table_of(self, number):
        """The table of a row."""
        return self._tables[number]

    def first_of(self, number):
        """The least number of a row."""
        while self._one_with[number] != number:
            number = self._one_with[number]
        return number

    def is_living(self, number):
        """Whether a row is living."""
        return self._are_living[self.first_of(number)]

    def are_living(self, many):
        """Whether as many of the first rows are living."""
        return all([self.is_living(number) for number in range(many)])

    def ends_of(self, terms):
        """The terms that are told for these terms."""
        # Most often nothing is equated at all.
        if not self._stands_for:
            return terms
        return tuple([self._end_of(term) for term in terms])

    def terms_of(self, number):
        """The terms of a row, as they are told."""
        return self.ends_of(self._written[number])

    def by_table(self, only_living):
        """A dict from the names of tables to the pairs of terms and number of their rows, or of the living ones."""
        found = {}
        for number, table in enumerate(self._tables):
            if not only_living or self.is_living(number):
                found.setdefault(table.name, []).append((self.terms_of(number), number))
        return found

    def told_by(self, number, index):
        """The key that a row tells by the reference with this index."""
        return self.ends_of(picked(self._written[number], self._tables[number].refers[index][0]))

    def can_do(self, step):
        """Whether a step is possible now."""
        word, first, second = step
        if word == "same":
            return 0 <= first < second < self.how_many() and self._can_be_one(first, second)
        if not 0 <= first < self.how_many() or not self.is_living(first):
            return False
        return 0 <= second < len(self._tables[first].refers)

    def do_step(self, step):
        """Does a step that is possible."""
        word, first, second = step
        if word == "same":
            self._make_one(first, second)
        else:
            self._refer(first, second)

    def _end_of(self, term):
        while term in self._stands_for:
            term = self._stands_for[term]
        return term

    def _can_be_one(self, first, second):
        table = self._tables[first]
        if self._tables[second].name != table.name:
            return False
        columns = key_columns(table)
        if picked(self.terms_of(first), columns) != picked(self.terms_of(second), columns):
            return False
        return table.scope == "all" or (self.is_living(first) and self.is_living(second))

    def _make_one(self, first, second):
        for term, other in zip(self._written[first], self._written[second]):
            self._equate(self._end_of(term), self._end_of(other))
        kept, other = sorted([self.first_of(first), self.first_of(second)])
        self._are_living[kept] = self._are_living[kept] or self._are_living[other]
        self._one_with[other] = kept

    def _equate(self, first, second):
        if first == second:
            return
        if isinstance(first, int) and isinstance(second, int):
            self._is_empty = True
        if _rank(second) < _rank(first):
            first, second = second, first
        self._stands_for[second] = first

    def _refer(self, number, index):
        target = self._by_name[self._tables[number].refers[index][1]]
        key = dict(zip(target.key, self.told_by(number, index)))
        self._referring.append((number, index))
        self._one_with.append(self.how_many())
        self._are_living.append(True)
        self._tables.append(target)
        terms = [key[column] if column in key else self._new_term() for column in range(target.width)]
        self._written.append(tuple(terms))

    def _new_term(self):
        self._made += 1
        return str(self._made)


def key_columns(table):
    """The columns by which living rows of a table are told apart."""
    key = table.key
    return tuple(range(table.width)) if key is None else key


def _rank(term):
    """What is told for equal terms comes first: an integer, the least variable, the new term that was made first."""
    if isinstance(term, int):
        return 0, 0, ""
    if is_name(term):
        return 1, 0, term
    return 2, int(term), ""
