"""A second, slow way to unfold programs and to tell their answers, straight from the words of the document."""

import itertools
from collections import Counter

from goneunseen.ask.places import Place
from goneunseen.ask.programs import Program
from goneunseen.ask.rules import Rule
from goneunseen.base.bases import Base
from goneunseen.errors import BrokenRule, TooMany
from tests.oracle import random_rows


def stored(base, table, filtered):
    """The rows of a table with their numbers."""
    counts = Counter(base.living(table))
    if not filtered:
        counts.update(base.gone(table))
    return counts


def assignments(places):
    """All ways to take a row with its number from each place, as (integers of the variables, product of the numbers)."""
    found = [({}, 1)]
    for terms, counts in places:
        longer = []
        for numbers, many in found:
            for row, times in counts.items():
                more = dict(numbers)
                if all((more.setdefault(term, part) if isinstance(term, str) else term) == part for term, part in zip(terms, row)):
                    longer.append((more, many * times))
        found = longer
    return found


def told_numbers(program, base, living=False):
    """For each view the numbers of its answers: view by view, without unfolding."""
    views = {}
    for name in program.names:
        counts = Counter()
        for rule in program[name]:
            places = [
                (place.terms, views[place.source] if place.source in views else stored(base, place.source, living or place.filtered))
                for place in rule]
            for numbers, many in assignments(places):
                counts[tuple(numbers.get(term, term) for term in rule.head)] += many
        views[name] = counts
    return views


def told_matches(rule, base, living=False):
    """All matches of a rule over tables: every list of pairs is tried."""
    pairs = []
    for place in rule:
        rows = [(row, True) for row in base.living(place.source)]
        if not living and not place.filtered:
            rows += [(row, False) for row in base.gone(place.source)]
        pairs.append(rows)
    found = []
    for choice in itertools.product(*pairs):
        numbers = {}
        if all(
                (numbers.setdefault(term, part) if isinstance(term, str) else term) == part
                for place, pair in zip(rule, choice) for term, part in zip(place.terms, pair[0])):
            found.append(choice)
    return sorted(found)


def unfold(program):
    """For each view the list of (text of the unfolded rule, spots), by replacing one place after another."""
    views = {}
    for name in program.names:
        views[name] = []
        for index, rule in enumerate(program[name]):
            options = [views.get(place.source, [None]) for place in rule]
            for choice in itertools.product(*options):
                made = replaced(name, index, rule, choice)
                if made is not None:
                    views[name].append(made)
    return {name: [(text_of(head, places), spots) for head, places, spots in views[name]] for name in views}


def replaced(name, index, rule, choice):
    head, places, spots, pairs = list(rule.head), [], [], []
    for at, (place, option) in enumerate(zip(rule, choice)):
        if option is None:
            places.append((place.source, list(place.terms), place.filtered))
            spots.append((name, index, at))
            continue
        def fresh(term, at=at):
            return term if isinstance(term, int) else f"{at}.{term}"
        pairs += zip(place.terms, map(fresh, option[0]))
        places += [(source, [fresh(term) for term in terms], filtered) for source, terms, filtered in option[1]]
        spots += option[2]
    while pairs:
        first, second = pairs.pop()
        if first == second:
            continue
        if isinstance(first, int) and isinstance(second, int):
            return None
        old, new = (second, first) if isinstance(first, int) else (first, second)
        def swap(term, old=old, new=new):
            return new if term == old else term
        head = [swap(term) for term in head]
        places = [(source, [swap(term) for term in terms], filtered) for source, terms, filtered in places]
        pairs = [(swap(one), swap(other)) for one, other in pairs]
    return head, places, tuple(spots)


def text_of(head, places):
    names = {}
    for term in [*head, *[term for source, terms, filtered in places for term in terms]]:
        if isinstance(term, str) and term not in names:
            names[term] = "abcdefghijklmnopqrstuvwxyz"[len(names)]
    told = [("+" if filtered else "") + f"{source}({', '.join(str(names.get(term, term)) for term in terms)})" for source, terms, filtered in places]
    return f"({', '.join(str(names.get(term, term)) for term in head)}) if {', '.join(told)}"


def random_base(dice, scheme):
    """A base with few integers."""
    while True:
        living, gone = random_rows(dice, scheme)
        try:
            return Base(scheme, living=living, gone=gone)
        except BrokenRule:
            pass


def random_terms(dice, many, names="xyz"):
    return tuple(dice.choice([*names, *names, 0, 1]) for _ in range(many))


def random_rule(dice, sources, most=3, head=None, names="xyz"):
    """A rule over sources, pairs of a name and a width; views among them, those without tables, have free places."""
    places = []
    for _ in range(dice.randint(1, most)):
        source, width, is_table = dice.choice(sources)
        places.append(Place(source, *random_terms(dice, width, names), filtered=is_table and dice.random() < 0.4))
    known = [term for place in places for term in place.variables] + [1]
    return Rule(tuple(dice.choice(known) for _ in range(dice.randint(0, 3) if head is None else head)), *places)


def random_program(dice, scheme):
    """A program over the scheme, or None if it has too many choices or places."""
    sources = [(table.name, table.width, True) for table in scheme]
    views = {}
    for name in ("u", "v", "w")[:dice.randint(1, 3)]:
        width = dice.randint(0, 2)
        views[name] = tuple(random_rule(dice, sources, 3, width) for _ in range(dice.choice((1, 1, 2))))
        if width > 0:
            sources = sources + [(name, width, False)] * 2
    try:
        return Program.of(scheme, views)
    except TooMany:
        return None
