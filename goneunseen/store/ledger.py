"""Ledgers: all rows of a base while commands change them.

A base never changes, and to make one behind each command takes long. A ledger is changed in place.
"""

from goneunseen.base.bases import Base, base_of, kept_rows, with_row
from goneunseen.errors import (
    GoneError,
    InvalidRow,
    KeyTaken,
    Missing,
    NotGone,
    NotLiving,
    Referred,
    TooMany,
    UnknownName,
)
from goneunseen.scheme.schemes import plans_of
from goneunseen.scheme.tables import picked


class Ledger:
    """The rows of a base, and of those behind it as it does commands; without a key, a row counts as its own key."""

    def __init__(self, base):
        self._scheme = base.scheme
        self._plans = plans_of(base.scheme)
        self._how_many = base.size
        # For each table: the living rows by their keys; the numbers of copies by the gone rows; the gone rows by their
        # keys, where these bar other rows; and how many references of living rows tell a key.
        self._living = {name: {} for name in self._plans}
        self._copies = {name: {} for name in self._plans}
        self._barring = {name: {} for name in self._plans}
        self._told = {name: {} for name in self._plans}
        if self._how_many > 0:
            for name in self._plans:
                self._fill(name, base)

    def do(self, command):
        """Does what has the form of a command, or raises the error for which it is refused."""
        word, name, row = command
        plan = self._plans.get(name)
        if plan is None:
            raise UnknownName(name)
        width, columns, is_all, references = plan
        if len(row) != width:
            raise InvalidRow("the table has no such row")
        key = picked(row, columns)
        if word == "put":
            self._put(name, key, row, references)
        elif word == "take":
            self._take(name, key, row, references)
            if is_all:
                self._barring[name][key] = row
        else:
            if row not in self._copies[name]:
                raise NotGone(row)
            if word == "back":
                self._back(name, key, row, references)
            else:
                self._how_many -= 1
            self._drop_copy(name, key, row)

    def refused_at(self, commands):
        """Does the commands up to the first one that is refused; its index, or None."""
        at = 0
        try:
            for at, command in enumerate(commands):
                self.do(command)
        except (GoneError, UnknownName, TooMany):
            return at
        return None

    def base_now(self):
        """The base with the rows as they are now."""
        living = {name: list(self._living[name].values()) for name in self._plans}
        gone = {name: {row: copies[row] for row in copies} for name, copies in self._copies.items()}
        return base_of(self._scheme, living, gone)

    def base_behind(self, base, command):
        """The base behind a command that is done, if this was the one ahead of it."""
        _, name, row = command
        is_living = self._living[name].get(picked(row, self._plans[name][1])) == row
        return with_row(base, name, row, is_living, self._copies[name].get(row, 0))

    def taken_along(self, name, row):
        """The commands that take a living row along with all that refer to it, also through others."""
        found = {(name, row): True}
        # References lead to earlier tables only, so one pass in the order of the tables finds all rows.
        for source in self._plans:
            rows = [other for place, other in found if place == source]
            for other in rows:
                for pair in self._referring(source, picked(other, self._plans[source][1])):
                    found[pair] = True
        commands = []
        for source in reversed(list(self._plans)):
            rows = [other for place, other in found if place == source]
            commands.extend([("take", source, other) for other in sorted(rows)])
        return tuple(commands)

    def _fill(self, name, base):
        """Takes over the rows of a table."""
        living, gone = kept_rows(base, name)
        _, columns, is_all, references = self._plans[name]
        for row in living:
            self._add_living(name, picked(row, columns), row, references)
        for row in gone:
            self._copies[name][row] = gone[row]
            if is_all:
                self._barring[name][picked(row, columns)] = row

    def _put(self, name, key, row, references):
        other = self._living[name].get(key, self._barring[name].get(key))
        if other is not None:
            raise KeyTaken(other)
        self._check_targets(row, references)
        if self._how_many >= Base.MAX_ROWS:
            raise TooMany(Base.MAX_ROWS)
        self._add_living(name, key, row, references)
        self._how_many += 1

    def _take(self, name, key, row, references):
        living, copies = self._living[name], self._copies[name]
        if living.get(key) != row:
            raise NotLiving(row)
        if self._told[name].get(key, 0) > 0:
            source, other = self._referring(name, key)[0]
            raise Referred(source, other)
        del living[key]
        copies[row] = copies.get(row, 0) + 1
        for columns, target in references:
            self._told[target][picked(row, columns)] -= 1

    def _back(self, name, key, row, references):
        # With the scope "all" no other gone row has the key of one that is gone, so the living ones are all that count.
        if key in self._living[name]:
            raise KeyTaken(self._living[name][key])
        self._check_targets(row, references)
        self._add_living(name, key, row, references)

    def _check_targets(self, row, references):
        for columns, target in references:
            wanted = picked(row, columns)
            if wanted not in self._living[target]:
                raise Missing(target, wanted)

    def _add_living(self, name, key, row, references):
        self._living[name][key] = row
        for columns, target in references:
            told, wanted = self._told[target], picked(row, columns)
            told[wanted] = told.get(wanted, 0) + 1

    def _drop_copy(self, name, key, row):
        copies = self._copies[name]
        copies[row] -= 1
        if copies[row] == 0:
            del copies[row]
            if key in self._barring[name]:
                del self._barring[name][key]

    def _referring(self, name, key):
        """The living rows that refer to the row with this key, by the order of the tables and then of the rows."""
        if self._told[name].get(key, 0) == 0:
            return []
        pairs = []
        for source in self._plans:
            ways = [columns for columns, target in self._plans[source][3] if target == name]
            if ways:
                for row in sorted(self._living[source].values()):
                    if key in [picked(row, columns) for columns in ways]:
                        pairs.append((source, row))
        return pairs
