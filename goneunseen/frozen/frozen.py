"""Frozen rules: bases in which a rule has its most general match."""

from goneunseen.ask.arguments import check_base, check_living, check_table_rule
from goneunseen.base.bases import Base
from goneunseen.errors import InvalidOperation, InvalidPaper
from goneunseen.frozen.chase import chased
from goneunseen.frozen.folds import is_match
from goneunseen.frozen.search import values_of
from goneunseen.scheme.names import is_row_of, is_whole
from goneunseen.scheme.tables import picked


def frozen(scheme, rule, *, avoid=(), living=False):
    """A frozen rule, or None if the rule is empty."""
    check_table_rule(scheme, rule)
    _check_avoid(avoid)
    check_living(living)
    rows, _ = chased(scheme, rule, living)
    if rows.is_empty():
        return None
    return _frozen_with(scheme, rule, rows, _new_integers(rows, [*rule.integers, *avoid]))


def is_frozen(scheme, rule, value, *, avoid=(), living=False):
    """Whether the value is a frozen rule of the rule, with whatever new integers."""
    check_table_rule(scheme, rule)
    _check_avoid(avoid)
    check_living(living)
    rows, _ = chased(scheme, rule, living)
    if rows.is_empty():
        return value is None
    return _is_frozen_by(scheme, rule, rows, value, avoid)


def carried(scheme, rule, value, base, match):
    """The dict from the integers of a frozen rule to integers of a base that carries it as the match tells."""
    check_table_rule(scheme, rule)
    rows, living = _frozen_either_way(scheme, rule, value)
    if rows is None:
        raise InvalidPaper("no frozen rule of the rule")
    check_base(scheme, base)
    if not is_match(rule, base, match, living):
        raise InvalidOperation("no match of the rule in the base")
    before, behind = _values(rows, value[0], value[1]), _values(rows, base, match)
    numbers = {term: term for term in _terms(rows) if is_whole(term)}
    for term in before:
        numbers[before[term]] = behind[term]
    return {number: numbers[number] for number in sorted(numbers)}


def _check_avoid(avoid):
    if not isinstance(avoid, tuple) or not all([is_whole(number) for number in avoid]):
        raise InvalidOperation("what is avoided is a tuple of integers")


def _frozen_either_way(scheme, rule, value):
    """The numbered rows that come to the value, and whether it is frozen only as living; or None and False."""
    for living in (False, True):
        rows, _ = chased(scheme, rule, living)
        if not rows.is_empty() and _is_frozen_by(scheme, rule, rows, value, ()):
            return rows, living
    return None, False


def _first_numbers(rows):
    """The numbers of the different rows."""
    return [number for number in range(rows.how_many()) if rows.first_of(number) == number]


def _terms(rows):
    """The terms of the different rows, as often as they stand there."""
    return [term for number in _first_numbers(rows) for term in rows.terms_of(number)]


def _new_integers(rows, barred):
    """A dict from the terms of the rows that are no integers to new integers."""
    used = {number: True for number in barred}
    numbers = {}
    fresh = 0
    for term in _terms(rows):
        if not is_whole(term) and term not in numbers:
            while fresh in used:
                fresh += 1
            numbers[term] = fresh
            fresh += 1
    return numbers


def _frozen_with(scheme, rule, rows, numbers):
    """The frozen rule in which the terms have these integers."""
    living = {name: [] for name in scheme.names}
    gone = {name: [] for name in scheme.names}
    for number in _first_numbers(rows):
        kept = living if rows.is_living(number) else gone
        kept[rows.table_of(number).name].append(_row_of(rows, number, numbers))
    base = Base(scheme, living=_tuples(living), gone=_tuples(gone))
    places = tuple([(_row_of(rows, number, numbers), rows.is_living(number)) for number in range(len(rule))])
    return base, places, tuple([numbers.get(term, term) for term in rows.ends_of(rule.head)])


def _row_of(rows, number, numbers):
    return tuple([numbers.get(term, term) for term in rows.terms_of(number)])


def _tuples(lists):
    return {name: tuple(lists[name]) for name in lists}


def _is_frozen_by(scheme, rule, rows, value, avoid):
    """Whether the value is what the numbered rows come to with some new integers."""
    if not isinstance(value, tuple) or len(value) != 3:
        return False
    base, places, head = value
    if not isinstance(base, Base) or not base.scheme == scheme or not _are_pairs(rule, places):
        return False
    if not isinstance(head, tuple) or not all([is_whole(number) for number in head]):
        return False
    numbers = _values(rows, base, places)
    if numbers is None or not _are_new(numbers, [*rule.integers, *avoid]):
        return False
    return _frozen_with(scheme, rule, rows, numbers) == value


def _are_pairs(rule, value):
    """Whether the value has a pair of a row and a boolean for each place."""
    if not isinstance(value, tuple) or len(value) != len(rule):
        return False
    return all([_is_pair(pair, len(place)) for pair, place in zip(value, rule)])


def _is_pair(value, width):
    if not isinstance(value, tuple) or len(value) != 2:
        return False
    return is_row_of(value[0], width) and isinstance(value[1], bool)


def _are_new(numbers, barred):
    """Whether the integers of the terms are different ones, and none of them is barred."""
    fresh = list(numbers.values())
    return len(set(fresh)) == len(fresh) and not any([number in barred for number in fresh])


def _values(rows, base, pairs):
    """A dict from the terms of the rows to integers with which the places come to these pairs of the base, or None.

    The other rows are the living ones of the base to which those before them refer.
    """
    found = [pair[0] for pair in pairs]
    for number, index in rows.referring():
        target = _referred(base, rows.table_of(number).refers[index], found[number])
        if target is None:
            return None
        found.append(target)
    numbers = {}
    for number, row in enumerate(found):
        numbers = values_of(rows.terms_of(number), row, numbers)
        if numbers is None:
            return None
    return numbers


def _referred(base, reference, row):
    """The living row to which a row refers, or None."""
    columns, target = reference
    for other in base.living(target):
        if picked(other, base.scheme[target].key) == picked(row, columns):
            return other
    return None
