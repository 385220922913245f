"""Matches of one answer."""

from goneunseen.ask.arguments import check_base, check_living, check_table_rule
from goneunseen.ask.told import pairs_for
from goneunseen.errors import InvalidOperation
from goneunseen.frozen.search import first_choice, values_of
from goneunseen.scheme.names import is_row_of, is_whole


def match_of(scheme, rule, base, answer, *, living=False):
    """A match of a rule over tables whose head is the answer, or None."""
    check_table_rule(scheme, rule)
    check_base(scheme, base)
    if not is_answer_of(rule, answer):
        raise InvalidOperation("the answer is no tuple of integers as long as the head")
    check_living(living)
    return match_among(rule, answer, [pairs_for(place, base, living) for place in rule])


def is_answer_of(rule, value):
    """Whether the value has the form of an answer of the rule."""
    return isinstance(value, tuple) and len(value) == len(rule.head) and all([is_whole(part) for part in value])


def match_among(rule, answer, pairs):
    """A match with this head which gives to each place one of the pairs that are told for it, or None."""
    numbers = values_of(rule.head, answer, {})
    if numbers is None:
        return None
    found = first_choice([place.terms for place in rule], [_with_rows(some) for some in pairs], numbers)
    return None if found is None else tuple([pair for row, pair in found])


def is_match(rule, base, value, living):
    """Whether the value is a match of a rule in a base, from the living rows or from all rows."""
    if not isinstance(value, tuple) or len(value) != len(rule):
        return False
    numbers = {}
    for place, pair in zip(rule, value):
        if not _is_stored(place, base, pair) or not (pair[1] or not (living or place.filtered)):
            return False
        numbers = values_of(place.terms, pair[0], numbers)
        if numbers is None:
            return False
    return True


def _with_rows(pairs):
    """The pairs behind their rows, as the search takes them."""
    return [(pair[0], pair) for pair in pairs]


def _is_stored(place, base, pair):
    """Whether the value is a pair of a row that the base stores for the place and whether it is living."""
    if not isinstance(pair, tuple) or len(pair) != 2:
        return False
    if not is_row_of(pair[0], len(place)) or not isinstance(pair[1], bool):
        return False
    is_living, copies = base[place.source, pair[0]]
    return is_living if pair[1] else copies > 0
