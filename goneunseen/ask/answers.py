"""Answers of views, their numbers, and matches of rules."""

from goneunseen.ask.arguments import check_base, check_living, check_table_rule
from goneunseen.ask.joins import columns_of
from goneunseen.ask.programs import outlines_of
from goneunseen.ask.rules import outline_of
from goneunseen.ask.tallies import Counted, Tally
from goneunseen.ask.told import check_product, pairs_for, told_answers, told_numbers


def answers(program, name, base, *, living=False):
    """The ascending tuple of the answers of a view."""
    outlines = outlines_of(program, name)
    check_base(program.scheme, base)
    check_living(living)
    return told_answers(outlines, base, living)


def numbers(program, name, base, *, living=False):
    """The tally of the answers of a view."""
    outlines = outlines_of(program, name)
    check_base(program.scheme, base)
    check_living(living)
    return Tally(Counted(told_numbers(outlines, base, living)))


def matches(scheme, rule, base, *, living=False):
    """Yields the matches of a rule over tables, ascending."""
    check_table_rule(scheme, rule)
    check_base(scheme, base)
    check_living(living)
    _, triples = outline_of(rule)
    check_product(base, triples)
    plans = _plans(base, triples, living)
    found = _beginnings(plans)
    spots, buckets = plans[-1]
    for values, pairs in found:
        for pair, _ in buckets.get(tuple([values[at] for at in spots]), ()):
            yield pairs + (pair,)


def _plans(base, triples, living):
    """For each place how its pairs are found, if places before it have some.

    Where in their values those of its variables stand that are known by then, and a dict from such values to its pairs,
    each with the values that it adds.
    """
    plans, names = [], []
    for triple in triples:
        columns = columns_of(triple[1])
        more = [name for name in columns if name not in names]
        known = [columns[name] for name in names if name in columns]
        added = [columns[name] for name in more]
        buckets = {}
        for pair in pairs_for(base, triple, living):
            key = tuple([pair[0][column] for column in known])
            buckets.setdefault(key, []).append((pair, tuple([pair[0][column] for column in added])))
        plans.append(([at for at, name in enumerate(names) if name in columns], buckets))
        names.extend(more)
    return plans


def _beginnings(plans):
    """The list of the pairs that matches can have at all places but the last one, behind their values, ascending."""
    # Where a place has no pairs at all, there is no end to what the others could have together.
    if not all([bool(buckets) for _, buckets in plans]):
        return []
    found = [((), ())]
    for spots, buckets in plans[:-1]:
        found = _lengthened(found, spots, buckets)
    return found


def _lengthened(found, spots, buckets):
    """The pairs with those of one place more, behind their values."""
    return [
        (values + more, pairs + (pair,)) for values, pairs in found
        for pair, more in buckets.get(tuple([values[at] for at in spots]), ())]
