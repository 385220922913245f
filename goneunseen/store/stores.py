"""The store: a base that commands change."""

from goneunseen.base.bases import Base
from goneunseen.errors import InvalidCommand, InvalidNumber, InvalidOperation, NotGone, NotLiving, UnknownName
from goneunseen.scheme.names import is_whole
from goneunseen.scheme.schemes import check_row
from goneunseen.store.commands import are_commands, is_command
from goneunseen.store.ledger import Ledger


class Store:
    """It holds a base, and accepts or refuses commands."""

    def __init__(self, scheme):
        self._base = Base.empty(scheme)
        # The ledger with the rows of the base, if there is one.
        self._ledger = None

    @property
    def scheme(self):
        """The scheme."""
        return self._base.scheme

    @property
    def base(self):
        """The base as it is now."""
        return self._base

    def put(self, table, row):
        """Stores a new living row."""
        check_row(self.scheme, table, row)
        return self._carry_out((("put", table, row),))

    def take(self, table, row, *, along=False):
        """Marks a living row as gone, along with all that refer to it if this is asked for."""
        check_row(self.scheme, table, row)
        if not isinstance(along, bool):
            raise InvalidOperation("along is a boolean")
        if not along:
            return self._carry_out((("take", table, row),))
        if row not in self._base.living(table):
            raise NotLiving(row)
        return self._carry_out(self._present_ledger().taken_along(table, row))

    def back(self, table, row):
        """Turns a copy into the living row."""
        check_row(self.scheme, table, row)
        return self._carry_out((("back", table, row),))

    def purge(self, table, row, *, many=1):
        """Removes copies of a gone row."""
        _, copies = self._base[table, row]
        if not is_whole(many) or many < 0:
            raise InvalidNumber(many)
        if copies < many:
            raise NotGone(row)
        return self._carry_out((("purge", table, row),) * many)

    def mark(self, table, row, word):
        """Sees to it that a row is living, or gone, or not stored."""
        is_living, copies = self._base[table, row]
        if word not in ("living", "gone", None):
            raise InvalidOperation("a row is marked as living, gone or None")
        if word == "living":
            return self._carry_out(_made_living(table, row, is_living, copies))
        if word == "gone":
            return self._carry_out(_made_gone(table, row, is_living, copies))
        return self._carry_out(_made_away_with(table, row, is_living, copies))

    def purge_all(self, *tables):
        """Removes all copies of all rows of these tables, or of all tables."""
        for name in tables:
            if name not in self.scheme:
                raise UnknownName(name)
        names = [name for name in self.scheme.names if name in tables or not tables]
        rows = [(name, row, many) for name in names for row, many in self._base.gone(name).items()]
        return self._carry_out(tuple([("purge", name, row) for name, row, many in rows for _ in range(many)]))

    def do(self, command):
        """Does a command."""
        if not is_command(command):
            raise InvalidCommand("no command")
        return self._carry_out((command,))

    def tried(self, commands):
        """The base behind the commands up to the first refused one, and its index; the store stays as it is."""
        if not isinstance(commands, tuple):
            raise InvalidOperation("the commands are no tuple")
        if not are_commands(commands):
            raise InvalidCommand("no command")
        ledger = Ledger(self._base)
        index = ledger.refused_at(commands)
        return ledger.base_now(), index

    def __getitem__(self, at):
        is_living, copies = self._base[at]
        if is_living:
            return "living"
        return "gone" if copies > 0 else None

    def __setitem__(self, at, worth):
        table, row = at
        self.mark(table, row, worth)

    def __iter__(self):
        raise TypeError("a store cannot be iterated over")

    def __len__(self):
        # The subset of Python asks for a len(..) here, and the rows stand in no one list.
        return len(range(self._base.size))

    def __contains__(self, value):
        return value in self._base

    def __eq__(self, other):
        return isinstance(other, Store) and self._base == other._base

    def _present_ledger(self):
        if self._ledger is None:
            self._ledger = Ledger(self._base)
        return self._ledger

    def _carry_out(self, commands):
        """Does the commands. Only the first of several can be refused, so that what is refused changes nothing."""
        ledger = self._present_ledger()
        for command in commands:
            ledger.do(command)
        if len(commands) == 1:
            self._base = ledger.base_behind(self._base, commands[0])
        elif commands:
            self._base = ledger.base_now()
        return commands


def _made_living(table, row, is_living, copies):
    if is_living:
        return ()
    return (("back" if copies > 0 else "put", table, row),)


def _made_gone(table, row, is_living, copies):
    if not is_living and copies > 0:
        return ()
    return (("take", table, row),)


def _made_away_with(table, row, is_living, copies):
    if is_living:
        return (("take", table, row),) + (("purge", table, row),) * (copies + 1)
    return (("purge", table, row),) * copies
