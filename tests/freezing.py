"""A second, slow way to freeze rules, to do steps of derivations and to fold, straight from the words of the document."""

import itertools

from goneunseen.ask.places import Place
from goneunseen.ask.rules import Rule
from goneunseen.base.bases import Base
from goneunseen.frozen.frozen import frozen
from goneunseen.scheme.schemes import Scheme
from goneunseen.scheme.tables import Table
from tests.oracle import picked


def freeze(dice, scheme, rule, living=False):
    """What freezing ends with, in a random order: (items, the item of each place, the terms of the head), or None."""
    items = [[place.source, list(place.terms), living or place.filtered] for place in rule]
    comes_to = list(range(len(items)))
    head, made = list(rule.head), itertools.count()
    while True:
        ways = ways_on(scheme, items)
        if not ways:
            return items, comes_to, head
        word, *what = dice.choice(ways)
        if word == "refer":
            at, columns, target = what
            key = dict(zip(scheme[target].key, picked(items[at][1], columns)))
            items.append([target, [key[column] if column in key else ("new", next(made)) for column in range(scheme[target].width)], True])
            continue
        first, second = what
        pairs = list(zip(items[first][1], items[second][1]))
        while pairs:
            one, other = pairs.pop()
            if one == other:
                continue
            if isinstance(one, int) and isinstance(other, int):
                return None
            old, new = (other, one) if isinstance(one, int) else (one, other)
            for item in items:
                item[1] = [new if term == old else term for term in item[1]]
            head = [new if term == old else term for term in head]
            pairs = [tuple(new if term == old else term for term in pair) for pair in pairs]
        items[first][2] = items[first][2] or items[second][2]
        del items[second]
        comes_to = [first if at == second else at - (at > second) for at in comes_to]


def ways_on(scheme, items):
    """All that can be done with the items."""
    ways = []
    for first, second in itertools.combinations(range(len(items)), 2):
        one, other = items[first], items[second]
        if one[0] != other[0]:
            continue
        table, both = scheme[one[0]], one[2] and other[2]
        if table.key and picked(one[1], table.key) == picked(other[1], table.key) and (both or table.scope == "all"):
            ways.append(("merge", first, second))
        elif both and one[1] == other[1]:
            ways.append(("same", first, second))
    for at, (name, terms, is_living) in enumerate(items):
        for columns, target in scheme[name].refers if is_living else ():
            keys = [picked(other[1], scheme[target].key) for other in items if other[0] == target and other[2]]
            if picked(terms, columns) not in keys:
                ways.append(("refer", at, columns, target))
    return ways


def with_integers(dice, scheme, rule, found, avoid=(), span=10 ** 20 - 1):
    """The frozen rule of what freezing ends with, with random new integers."""
    items, comes_to, head = found
    numbers = {}
    for item in items:
        for term in item[1]:
            while not isinstance(term, int) and term not in numbers:
                number = dice.randint(-span, span)
                if number not in rule.integers and number not in avoid and number not in numbers.values():
                    numbers[term] = number
    rows = [tuple(numbers.get(term, term) for term in item[1]) for item in items]
    living = {name: tuple(row for item, row in zip(items, rows) if item[0] == name and item[2]) for name in scheme.names}
    gone = {name: tuple(row for item, row in zip(items, rows) if item[0] == name and not item[2]) for name in scheme.names}
    places = tuple((rows[at], items[at][2]) for at in comes_to)
    return Base(scheme, living=living, gone=gone), places, tuple(numbers.get(term, term) for term in head)


def canonical(scheme, rule, value):
    """A frozen rule with its new integers told by where they first stand: in the places, then in the rows referred to."""
    base, places, head = value
    names, queue = {number: ("rule", number) for number in rule.integers}, []
    def told(row):
        return tuple(names.setdefault(part, ("new", len(names))) for part in row)
    for place, (row, is_living) in zip(rule, places):
        told(row)
        queue.append((place.source, row, is_living))
    for name, row, is_living in queue:
        for columns, target in scheme[name].refers if is_living else ():
            for other in base.living(target):
                if picked(other, scheme[target].key) == picked(row, columns):
                    told(other)
                    queue.append((target, other, True))
    return (
        [sorted(told(row) for row in base.living(name)) for name in scheme.names],
        [sorted((told(row), many) for row, many in base.gone(name).items()) for name in scheme.names],
        [(told(row), is_living) for row, is_living in places], told(head))


class Rows:
    """Numbered rows as [11.1] words them: terms are equated by a list of sets."""

    def __init__(self, scheme, rule, living=False):
        self.scheme = scheme
        self.rows = [(place.source, list(place.terms)) for place in rule]
        self.living = [living or place.filtered for place in rule]
        self.one = [{number} for number in range(len(rule))]
        self.equal = []
        self.made = 0

    def same(self, first, second):
        return first == second or any(first in some and second in some for some in self.equal)

    def same_all(self, first, second):
        return len(first) == len(second) and all(self.same(one, other) for one, other in zip(first, second))

    def is_living(self, number):
        return any(self.living[other] for other in self.one[number])

    def can_do(self, step):
        word, first, second = step
        if word == "refers":
            return 0 <= first < len(self.rows) and self.is_living(first) and 0 <= second < len(self.scheme[self.rows[first][0]].refers)
        if not (0 <= first < second < len(self.rows)) or self.rows[first][0] != self.rows[second][0]:
            return False
        table, both = self.scheme[self.rows[first][0]], self.is_living(first) and self.is_living(second)
        one, other = self.rows[first][1], self.rows[second][1]
        if table.key and self.same_all(picked(one, table.key), picked(other, table.key)) and (both or table.scope == "all"):
            return True
        return both and self.same_all(one, other)

    def do(self, step):
        word, first, second = step
        if word == "refers":
            name, terms = self.rows[first]
            columns, target = self.scheme[name].refers[second]
            key, row = dict(zip(self.scheme[target].key, picked(terms, columns))), []
            for column in range(self.scheme[target].width):
                if column not in key:
                    self.made += 1
                row.append(key.get(column, str(self.made)))
            self.rows.append((target, row))
            self.living.append(True)
            self.one.append({len(self.rows) - 1})
            return
        for one, other in zip(self.rows[first][1], self.rows[second][1]):
            together = {one, other}.union(*[some for some in self.equal if one in some or other in some])
            self.equal = [some for some in self.equal if not some & together] + [together]
        together = self.one[first] | self.one[second]
        for number in together:
            self.one[number] = together

    def is_empty(self):
        return any(len([term for term in some if isinstance(term, int)]) > 1 for some in self.equal)

    def told(self, term):
        together = {term}.union(*[some for some in self.equal if term in some])
        integers = [one for one in together if isinstance(one, int)]
        names = sorted(one for one in together if isinstance(one, str) and not one.isdigit())
        made = sorted(int(one) for one in together if isinstance(one, str) and one.isdigit())
        return integers[0] if integers else names[0] if names else str(made[0])

    def all_told(self):
        return tuple(
            (name, tuple(self.told(term) for term in terms), self.is_living(number)) for number, (name, terms) in enumerate(self.rows))


def rows_after(scheme, rule, steps, living=False):
    """The rows behind the steps, or None if one of them is not possible."""
    rows = Rows(scheme, rule, living)
    for step in steps:
        if not rows.can_do(step):
            return None
        rows.do(step)
    return rows


def is_right(scheme, rules, index, value, mode):
    """Whether a pair of steps and an ending, of the right forms, is a right derivation."""
    steps, ending = value
    rows = rows_after(scheme, rules[index], steps)
    if rows is None:
        return False
    if rows.is_empty() or ending == ("empty",):
        return rows.is_empty() and ending == ("empty",)
    if ending == ("living",):
        return all(rows.is_living(number) for number in range(len(rules[index])))
    word, other, numbers = ending
    if mode != "answers" or not 0 <= other < len(rules) or len(numbers) != len(rules[other]):
        return False
    values = {}
    def stands(term, wanted):
        return rows.same(values.setdefault(("variable", term), wanted) if isinstance(term, str) else term, wanted)
    for place, number in zip(rules[other], numbers):
        if not 0 <= number < len(rows.rows) or not rows.is_living(number) or rows.rows[number][0] != place.source:
            return False
        if not all(stands(term, wanted) for term, wanted in zip(place.terms, rows.rows[number][1])):
            return False
    return all(stands(term, wanted) for term, wanted in zip(rules[other].head, rules[index].head))


def integers_of(base):
    return sorted({part for name in base.scheme.names for row in [*base.living(name), *base.gone(name)] for part in row})


def folds(scheme, rule, value):
    """All folds of a frozen rule, frozen as living."""
    base, _, head = value
    numbers = integers_of(base)
    kept = set(rule.integers) | set(head)
    rows = [(name, row) for name in scheme.names for row in base.living(name)]
    for choice in itertools.product(*[[number] if number in kept else numbers for number in numbers]):
        fold = dict(zip(numbers, choice))
        image = {(name, tuple(fold[part] for part in row)) for name, row in rows}
        if image <= set(rows) and all(fold[fold[number]] == fold[number] for number in numbers):
            yield fold, image


def chains():
    """Schemes with references through four tables."""
    found = []
    for scopes in (("living",) * 3, ("all",) * 3, ("all", "living", "all"), ("living", "all", "living")):
        found.append(Scheme(
            Table("a", 2, key=(0,), scope=scopes[0]), Table("b", 2, key=(0,), scope=scopes[1], refers=(((1,), "a"),)),
            Table("c", 2, key=(0,), scope=scopes[2], refers=(((1,), "b"),)), Table("d", 2, refers=(((1,), "c"), ((0,), "b")))))
    return found


def clashing_rule(scheme, dice):
    """A rule some places of which are likely to have equal keys, and integers in other columns."""
    tables = [table for table in scheme if table.key] or list(scheme)
    table, places = dice.choice(tables), []
    key = [dice.choice(("x", "y", 0)) for _ in range(table.width)]
    for _ in range(dice.randint(2, 4)):
        terms = [key[column] if column in (table.key or ()) else dice.choice(("x", "z", 1, 2)) for column in range(table.width)]
        places.append(Place(table.name, *terms, filtered=dice.random() < 0.7))
    other = dice.choice(list(scheme))
    places.append(+Place(other.name, *[dice.choice(("x", "y", 0)) for _ in range(other.width)]))
    return Rule((), *places)


def frozen_both_ways(scheme, rule):
    return [(living, frozen(scheme, rule, living=living)) for living in (False, True)]
