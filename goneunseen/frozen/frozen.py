"""Frozen rules: bases in which a rule has its most general match."""

from goneunseen.ask.arguments import check_base, check_living, check_table_rule
from goneunseen.ask.rules import outline_of
from goneunseen.base.bases import Base, base_of
from goneunseen.errors import InvalidOperation, InvalidPaper
from goneunseen.frozen.chase import as_living, chased
from goneunseen.frozen.folds import is_match
from goneunseen.frozen.search import values_of
from goneunseen.scheme.names import is_row_of, is_whole
from goneunseen.scheme.tables import picked


def frozen(scheme, rule, *, avoid=(), living=False):
    """A frozen rule, or None if the rule is empty."""
    check_table_rule(scheme, rule)
    _check_avoid(avoid)
    check_living(living)
    return frozen_by(scheme, rule, chased_rule(scheme, rule, living), avoid)


def is_frozen(scheme, rule, value, *, avoid=(), living=False):
    """Whether the value is a frozen rule of the rule, with whatever new integers."""
    check_table_rule(scheme, rule)
    _check_avoid(avoid)
    check_living(living)
    rows = chased_rule(scheme, rule, living)
    if rows.is_empty():
        return value is None
    return is_frozen_by(scheme, rule, rows, value, avoid)


def carried(scheme, rule, value, base, match):
    """The dict from the integers of a frozen rule to integers of a base that carries it as the match tells."""
    check_table_rule(scheme, rule)
    rows, living = _frozen_either_way(scheme, rule, value)
    if rows is None:
        raise InvalidPaper("no frozen rule of the rule")
    check_base(scheme, base)
    if not is_match(outline_of(rule)[1], base, match, living):
        raise InvalidOperation("no match of the rule in the base")
    return carried_by(rows, value, base, match)


def chased_rule(scheme, rule, living):
    """The numbered rows to which a rule comes."""
    _, triples = outline_of(rule)
    return chased(scheme, as_living(triples) if living else triples)[0]


def frozen_by(scheme, rule, rows, avoid):
    """The frozen rule to which the numbered rows of a rule come, or None if it is empty."""
    if rows.is_empty():
        return None
    return frozen_with(scheme, outline_of(rule), rows, _new_integers(rows, [*rule.integers, *avoid]))


def frozen_anew(scheme, outline, rows, barred):
    """The frozen rule of an outline whose rows are not empty; none of its new integers is barred."""
    return frozen_with(scheme, outline, rows, _new_integers(rows, barred))


def is_frozen_by(scheme, rule, rows, value, avoid):
    """Whether the value is what the numbered rows come to with some new integers."""
    if not isinstance(value, tuple) or len(value) != 3:
        return False
    base, places, head = value
    if not isinstance(base, Base) or not base.scheme == scheme or not _are_pairs(rule, places):
        return False
    if not isinstance(head, tuple) or not all([is_whole(number) for number in head]):
        return False
    numbers = _values(rows, base, places)
    if numbers is None or not _are_new(numbers, [*rule.integers, *avoid]):
        return False
    return frozen_with(scheme, outline_of(rule), rows, numbers) == value


def carried_by(rows, value, base, match):
    """The dict of what the integers of a frozen rule, to which the rows come, are in a match."""
    before, behind = _values(rows, value[0], value[1]), _values(rows, base, match)
    numbers = {term: term for term in _terms(rows) if isinstance(term, int)}
    for term in before:
        numbers[before[term]] = behind[term]
    return {number: numbers[number] for number in sorted(numbers)}


def frozen_with(scheme, outline, rows, numbers):
    """The frozen rule in which the terms have these integers."""
    head, triples = outline[0], outline[1]
    living = {name: [] for name in scheme.names}
    gone = {name: {} for name in scheme.names}
    for number in _first_numbers(rows):
        name, row = rows.source_of(number), _numbered_row(rows, number, numbers)
        if rows.is_living(number):
            living[name].append(row)
        else:
            gone[name][row] = gone[name].get(row, 0) + 1
    # What freezing ends with keeps the rules, and different terms have different integers.
    base = base_of(scheme, living, gone)
    places = tuple([(_numbered_row(rows, number, numbers), rows.is_living(number)) for number in range(len(triples))])
    return base, places, tuple([numbers.get(term, term) for term in rows.ends_of(head)])


def _check_avoid(avoid):
    if not isinstance(avoid, tuple) or not all([is_whole(number) for number in avoid]):
        raise InvalidOperation("what is avoided is a tuple of integers")


def _frozen_either_way(scheme, rule, value):
    """The numbered rows that come to the value, and whether it is frozen only as living; or None and False."""
    for living in (False, True):
        rows = chased_rule(scheme, rule, living)
        if not rows.is_empty() and is_frozen_by(scheme, rule, rows, value, ()):
            return rows, living
    return None, False


def _first_numbers(rows):
    """The numbers of the different rows."""
    return [number for number in range(rows.how_many()) if rows.first_of(number) == number]


def _terms(rows):
    """The terms of the different rows, as often as they stand there."""
    return [term for number in _first_numbers(rows) for term in rows.terms_of(number)]


def _new_integers(rows, barred):
    """A dict from the terms of the rows that are no integers to new integers."""
    used = {number: True for number in barred}
    numbers = {}
    fresh = 0
    for term in _terms(rows):
        if not isinstance(term, int) and term not in numbers:
            while fresh in used:
                fresh += 1
            numbers[term] = fresh
            fresh += 1
    return numbers


def _numbered_row(rows, number, numbers):
    return tuple([numbers.get(term, term) for term in rows.terms_of(number)])


def _are_pairs(rule, value):
    """Whether the value has a pair of a row and a boolean for each place."""
    if not isinstance(value, tuple) or len(value) != len(rule):
        return False
    return all([_is_pair(pair, len(place)) for pair, place in zip(value, rule)])


def _is_pair(value, width):
    if not isinstance(value, tuple) or len(value) != 2:
        return False
    return is_row_of(value[0], width) and isinstance(value[1], bool)


def _are_new(numbers, barred):
    """Whether the integers of the terms are different ones, and none of them is barred."""
    fresh = list(numbers.values())
    return len(set(fresh)) == len(fresh) and not any([number in barred for number in fresh])


def _values(rows, base, pairs):
    """A dict from the terms of the rows to integers with which the places come to these pairs of the base, or None.

    The other rows are the living ones of the base to which those before them refer.
    """
    found = [pair[0] for pair in pairs]
    for number, index in rows.referring():
        target = _referred(base, rows.reference_of(number, index), found[number])
        if target is None:
            return None
        found.append(target)
    numbers = {}
    for number, row in enumerate(found):
        numbers = values_of(rows.terms_of(number), row, numbers)
        if numbers is None:
            return None
    return numbers


def _referred(base, reference, row):
    """The living row to which a row refers, or None."""
    columns, target = reference
    key, wanted = base.scheme[target].key, picked(row, columns)
    for other in base.living(target):
        if picked(other, key) == wanted:
            return other
    return None
