"""Places: a table or a view with terms, and the rows for which they stand."""

from goneunseen.ask.sound import Sound
from goneunseen.errors import InvalidOperation, InvalidPlace, InvalidRow
from goneunseen.scheme.names import is_integer, is_name, is_row_of, is_term

_MOST_TERMS = 4


class Place:
    """A place of a query, filtered or free; a place never changes."""

    def __init__(self, source, *terms, filtered=False):
        if isinstance(filtered, Sound):
            self._triple = (source, terms, filtered.worth)
        else:
            _check_parts(source, terms, filtered)
            self._triple = (source, terms, filtered)

    @classmethod
    def of(cls, source, terms, *, filtered=False):
        """The place with a tuple of terms."""
        if not isinstance(terms, tuple):
            raise InvalidPlace("the terms are no tuple")
        return cls(source, *terms, filtered=filtered)

    @property
    def source(self):
        """The name of the table or of the view."""
        return self._triple[0]

    @property
    def terms(self):
        """The terms."""
        return self._triple[1]

    @property
    def filtered(self):
        """Whether it means living rows only."""
        return self._triple[2]

    @property
    def variables(self):
        """The variables among the terms, ascending."""
        return tuple(sorted(set([term for term in self._triple[1] if isinstance(term, str)])))

    def __pos__(self):
        return _place_with(self._triple, Sound(True))

    def __neg__(self):
        return _place_with(self._triple, Sound(False))

    def __invert__(self):
        return _place_with(self._triple, Sound(not self._triple[2]))

    def __len__(self):
        return len(self._triple[1])

    def __eq__(self, other):
        return isinstance(other, Place) and self._triple == other._triple

    def __str__(self):
        return f"{_sign(self._triple[2])}{self._triple[0]}({_terms_text(self._triple[1])})"


def triples_of(places):
    """For each place the triple of its source, its terms and whether it is filtered: most work is done on these."""
    return tuple([place._triple for place in places])


def places_of(triples):
    """The places with these triples, which come from other places."""
    marks = {True: Sound(True), False: Sound(False)}
    return [_place_with(triple, marks[triple[2]]) for triple in triples]


def row_at(place, numbers):
    """The row for which the place stands if its variables have these integers."""
    _check_place(place)
    _check_numbers(numbers)
    if not all([name in numbers for name in place.variables]):
        raise InvalidOperation("a variable of the place has no integer")
    return tuple([numbers.get(term, term) for term in place.terms])


def fits(place, row, numbers):
    """The integers of the variables with which the place stands for the row, or None."""
    _check_place(place)
    if not is_row_of(row, len(place)):
        raise InvalidRow("no row as long as the place")
    _check_numbers(numbers)
    found = {name: numbers[name] for name in numbers}
    for term, part in zip(place.terms, row):
        known = found.setdefault(term, part) if is_name(term) else term
        if known != part:
            return None
    return {name: found[name] for name in sorted(found)}


def _place_with(triple, mark):
    source, terms, _ = triple
    return Place(source, *terms, filtered=mark)


def _sign(filtered):
    return "+" if filtered else ""


def _terms_text(terms):
    return ", ".join([str(term) for term in terms])


def _check_parts(source, terms, filtered):
    if not is_name(source):
        raise InvalidPlace("a place needs the name of a table or of a view")
    if not 1 <= len(terms) <= _MOST_TERMS or not all([is_term(term) for term in terms]):
        raise InvalidPlace("a place has one to four terms")
    if not isinstance(filtered, bool):
        raise InvalidPlace("filtered is a boolean")


def _check_place(place):
    if not isinstance(place, Place):
        raise InvalidPlace("no place")


def _check_numbers(numbers):
    if not isinstance(numbers, dict):
        raise InvalidOperation("no dict")
    if not all([is_name(name) and is_integer(numbers[name]) for name in numbers]):
        raise InvalidOperation("the dict is not from names to integers")
