"""Ledgers: all rows of a base while commands change them.

A base never changes, and to make one behind each command takes long. A ledger is changed in place.
"""

from goneunseen.base.bases import Base, base_of, with_row
from goneunseen.errors import GoneError, InvalidRow, TooMany, UnknownName
from goneunseen.store.shelves import Shelf


class Ledger:
    """The rows of a base, and of those behind it as it does commands."""

    def __init__(self, base):
        self._scheme = base.scheme
        self._widths = {table.name: table.width for table in base.scheme}
        self._shelves = {}
        self._stored = base.size
        for table in base.scheme:
            self._shelves[table.name] = Shelf(table, self._shelves)
        for name in base.scheme.names:
            self._shelves[name].fill(base.living(name), base.gone(name))

    def do(self, command):
        """Does what has the form of a command, or raises the error for which it is refused."""
        word, name, row = command
        if name not in self._shelves:
            raise UnknownName(name)
        if len(row) != self._widths[name]:
            raise InvalidRow("the table has no such row")
        shelf = self._shelves[name]
        if word == "put":
            shelf.put(row, self._stored >= Base.MAX_ROWS)
            self._stored += 1
        elif word == "take":
            shelf.take(row)
        elif word == "back":
            shelf.back(row)
        else:
            shelf.purge(row)
            self._stored -= 1

    def refused_at(self, commands):
        """Does the commands up to the first one that is refused; its index, or None."""
        at = 0
        try:
            for at, command in enumerate(commands):
                self.do(command)
        except (GoneError, UnknownName, TooMany):
            return at
        return None

    def base_now(self):
        """The base with the rows as they are now."""
        living = {name: self._shelves[name].living() for name in self._shelves}
        return base_of(self._scheme, living, {name: self._shelves[name].gone() for name in self._shelves})

    def base_behind(self, base, command):
        """The base behind a command that is done, if this was the one ahead of it."""
        _, name, row = command
        shelf = self._shelves[name]
        return with_row(base, name, row, shelf.is_living(row), shelf.copies_of(row))

    def taken_along(self, name, row):
        """The commands that take a living row along with all that refer to it, also through others."""
        found = {(name, row): True}
        # References lead to earlier tables only, so one pass in the order of the tables finds all rows.
        for source in self._shelves:
            rows = [other for place, other in found if place == source]
            for other in rows:
                for pair in self._shelves[source].referring(other):
                    found[pair] = True
        commands = []
        for source in reversed(list(self._shelves)):
            rows = [other for place, other in found if place == source]
            commands.extend([("take", source, other) for other in sorted(rows)])
        return tuple(commands)
