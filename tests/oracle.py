"""A second, slow way to tell what bases and stores do, straight from the words of the document."""

from collections import Counter

from goneunseen.errors import KeyTaken, Missing, NotGone, NotLiving, Referred, TooMany
from goneunseen.scheme.schemes import Scheme
from goneunseen.scheme.tables import Table
from tests.values import SHOP


def some_schemes():
    """Schemes with all kinds of keys and references."""
    return [
        SHOP,
        SHOP.without(("all", "buyer")),
        Scheme(Table("a", 1), Table("b", 2)),
        Scheme(
            Table("z", 2, key=(1,)), Table("b", 2, key=(0,), scope="all"),
            Table("a", 2, key=(0, 1), refers=(((0,), "z"), ((1,), "z"), ((1,), "b"))),
            Table("c", 2, refers=(((1, 0), "a"),))),
        Scheme(
            Table("a", 1, key=(0,)), Table("b", 2, key=(0,), refers=(((1,), "a"),)),
            Table("c", 2, key=(0,), scope="all", refers=(((1,), "b"),)), Table("d", 2, refers=(((0,), "c"), ((1,), "c")))),
        Scheme(Table("a", 4, key=(0, 1, 2, 3), scope="all"), Table("b", 1, refers=(((0, 0, 0, 0), "a"),))),
    ]


def random_row(dice, table, span=2):
    return tuple(dice.randint(0, span) for _ in range(table.width))


def random_rows(dice, scheme):
    """Some living and gone rows of each table, which can break rules."""
    living, gone = {}, {}
    for table in scheme:
        rows = {random_row(dice, table): True for _ in range(dice.randint(0, 3))}
        living[table.name] = tuple(rows)
        gone[table.name] = tuple(random_row(dice, table) for _ in range(dice.choice((0, 0, 1, 3))))
    return living, gone


def picked(row, columns):
    return tuple(row[column] for column in columns)


def broken_rules(scheme, living, gone):
    """The rules of the scheme that the rows break, in their order."""
    return [rule for rule in scheme.rules if is_broken(scheme, rule, living, gone)]


def is_broken(scheme, rule, living, gone):
    rows = living[rule[1]]
    if rule[0] == "refers":
        keys = [picked(row, scheme[rule[3]].key) for row in living[rule[3]]]
        return any(picked(row, rule[2]) not in keys for row in rows)
    if rule[0] == "all":
        rows = tuple(rows) + tuple(gone[rule[1]])
    keys = [picked(row, scheme[rule[1]].key) for row in rows]
    return any(keys[i] == keys[j] for i in range(len(keys)) for j in range(i))


class Model:
    """A store as lists of rows."""

    def __init__(self, scheme):
        self.scheme = scheme
        self.living = {name: [] for name in scheme.names}
        self.gone = {name: [] for name in scheme.names}

    def twin(self):
        other = Model(self.scheme)
        other.living = {name: list(rows) for name, rows in self.living.items()}
        other.gone = {name: list(rows) for name, rows in self.gone.items()}
        return other

    @property
    def size(self):
        return sum(len(rows) for rows in [*self.living.values(), *self.gone.values()])

    def agrees(self, base):
        return all(
            base.living(name) == tuple(sorted(self.living[name])) and base.gone(name) == dict(Counter(self.gone[name]))
            for name in self.scheme.names)

    def referring(self, name, row):
        """The living rows that refer to the row."""
        found = []
        for table in self.scheme:
            for other in sorted(self.living[table.name]):
                if any(
                        target == name and picked(other, columns) == picked(row, self.scheme[name].key)
                        for columns, target in table.refers):
                    found.append((table.name, other))
        return found

    def hurdle(self, name, row, others):
        """The error for a row that would live beside the others."""
        table = self.scheme[name]
        for other in others:
            if (picked(other, table.key) == picked(row, table.key)) if table.key else other == row:
                return KeyTaken, (other,)
        for columns, target in table.refers:
            if picked(row, columns) not in [picked(other, self.scheme[target].key) for other in self.living[target]]:
                return Missing, (target, picked(row, columns))
        return None

    def refusal(self, command):
        """The error for which a command is refused, as a class and its arguments, or None."""
        word, name, row = command
        copies = self.gone[name].count(row)
        if word == "put":
            others = self.living[name] + (self.gone[name] if self.scheme[name].scope == "all" else [])
            return self.hurdle(name, row, others) or ((TooMany, (100,)) if self.size == 100 else None)
        if word == "take":
            if row not in self.living[name]:
                return NotLiving, (row,)
            found = self.referring(name, row)
            return (Referred, found[0]) if found else None
        if copies == 0:
            return NotGone, (row,)
        if word == "purge":
            return None
        others = list(self.gone[name])
        others.remove(row)
        return self.hurdle(name, row, self.living[name] + (others if self.scheme[name].scope == "all" else []))

    def do(self, command):
        """Does a command that is not refused."""
        word, name, row = command
        if word in ("back", "purge"):
            self.gone[name].remove(row)
        if word in ("put", "back"):
            self.living[name].append(row)
        if word == "take":
            self.living[name].remove(row)
            self.gone[name].append(row)


def random_command(dice, scheme, span=2):
    table = dice.choice(list(scheme))
    word = dice.choice(("put", "put", "take", "back", "purge"))
    return word, table.name, random_row(dice, table, span)


def random_model(dice, scheme, length, span=2):
    """A model behind random commands, and the commands that it accepted."""
    model, done = Model(scheme), []
    for _ in range(length):
        command = random_command(dice, scheme, span)
        if model.refusal(command) is None:
            model.do(command)
            done.append(command)
    return model, tuple(done)
