"""Matches of one answer."""

from goneunseen.ask.arguments import check_base, check_living, check_table_rule
from goneunseen.ask.rules import outline_of
from goneunseen.ask.told import pairs_for
from goneunseen.errors import InvalidOperation
from goneunseen.frozen.search import first_choice, values_of
from goneunseen.scheme.names import is_row_of, is_whole


def match_of(scheme, rule, base, answer, *, living=False):
    """A match of a rule over tables whose head is the answer, or None."""
    check_table_rule(scheme, rule)
    check_base(scheme, base)
    if not is_answer_of(rule.head, answer):
        raise InvalidOperation("the answer is no tuple of integers as long as the head")
    check_living(living)
    head, triples = outline_of(rule)
    return match_among(head, triples, answer, [pairs_for(base, triple, living) for triple in triples])


def is_answer_of(head, value):
    """Whether the value has the form of an answer of a rule with this head."""
    return isinstance(value, tuple) and len(value) == len(head) and all([is_whole(part) for part in value])


def match_among(head, triples, answer, pairs):
    """A match with this head which gives to each place one of the pairs that are told for it, or None."""
    numbers = values_of(head, answer, {})
    if numbers is None:
        return None
    found = first_choice([terms for _, terms, _ in triples], [_with_rows(some) for some in pairs], numbers)
    return None if found is None else tuple([pair for _, pair in found])


def is_match(triples, base, value, living):
    """Whether the value is a match of places in a base, from the living rows or from all rows."""
    if not isinstance(value, tuple) or len(value) != len(triples):
        return False
    numbers = {}
    for (source, terms, filtered), pair in zip(triples, value):
        if not _is_stored(base, source, len(terms), pair) or not (pair[1] or not (living or filtered)):
            return False
        numbers = values_of(terms, pair[0], numbers)
        if numbers is None:
            return False
    return True


def _with_rows(pairs):
    """The pairs behind their rows, as the search takes them."""
    return [(pair[0], pair) for pair in pairs]


def _is_stored(base, table, width, pair):
    """Whether the value is a pair of a row that the base stores in the table and whether it is living."""
    if not isinstance(pair, tuple) or len(pair) != 2:
        return False
    if not is_row_of(pair[0], width) or not isinstance(pair[1], bool):
        return False
    is_living, copies = base[table, pair[0]]
    return is_living if pair[1] else copies > 0
