"""Answers of views, their numbers, and matches of rules."""

from goneunseen.ask.arguments import check_base, check_living, check_table_rule
from goneunseen.ask.programs import unfolded
from goneunseen.ask.tallies import Counted, Tally
from goneunseen.ask.told import check_combinations, columns_of, pairs_for, told_answers, told_numbers


def answers(program, name, base, *, living=False):
    """The ascending tuple of the answers of a view."""
    rules = unfolded(program, name)
    check_base(program.scheme, base)
    check_living(living)
    return told_answers(rules, base, living)


def numbers(program, name, base, *, living=False):
    """The tally of the answers of a view."""
    rules = unfolded(program, name)
    check_base(program.scheme, base)
    check_living(living)
    return Tally(Counted(told_numbers(rules, base, living)))


def matches(scheme, rule, base, *, living=False):
    """Yields the matches of a rule over tables, ascending."""
    check_table_rule(scheme, rule)
    check_base(scheme, base)
    check_living(living)
    check_combinations((rule,), base)
    plans = _plans(rule, base, living)
    for found in _from_place(plans, 0, {}):
        yield found


def _plans(rule, base, living):
    """For each place how its pairs are found.

    The names that earlier places know; a dict from their integers to the pairs; and the other names with their columns.
    """
    plans, names = [], {}
    for place in rule:
        columns = columns_of(place)
        known = [name for name in columns if name in names]
        more = [(name, columns[name]) for name in columns if name not in names]
        buckets = {}
        for pair in pairs_for(place, base, living):
            buckets.setdefault(tuple([pair[0][columns[name]] for name in known]), []).append(pair)
        plans.append((known, buckets, more))
        names.update(columns)
    return plans


def _from_place(plans, at, values):
    """Yields the ends of matches from the place with this index on, if its variables have these integers."""
    if at == len(plans):
        yield ()
    else:
        known, buckets, more = plans[at]
        after = at + 1
        for pair in buckets.get(tuple([values[name] for name in known]), ()):
            found = {**values, **{name: pair[0][column] for name, column in more}}
            for rest in _from_place(plans, after, found):
                yield (pair, *rest)
