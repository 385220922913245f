"""Bases: the living rows and the copies of the gone rows in the tables of a scheme."""

from goneunseen.errors import BrokenRule, InvalidBase, InvalidOperation, InvalidScheme, TooMany, UnknownName
from goneunseen.scheme.names import is_row_of
from goneunseen.scheme.schemes import Scheme, check_row, have_same_tables
from goneunseen.scheme.tables import picked


class Base:
    """Rows that keep the rules of their scheme; a base never changes."""

    MAX_ROWS = 100

    def __init__(self, scheme, *, living=None, gone=None):
        if not isinstance(scheme, Scheme):
            raise InvalidScheme("a base needs a scheme")
        if not _are_rows(scheme, living) or _has_row_twice(living):
            raise InvalidBase("the living rows are no dict from tables to tuples of different rows")
        if not _are_rows(scheme, gone):
            raise InvalidBase("the gone rows are no dict from tables to tuples of rows")
        self._scheme = scheme
        self._living = {name: _sorted_rows(living, name) for name in scheme.names}
        self._gone = {name: _counted(_sorted_rows(gone, name)) for name in scheme.names}
        if self.size > Base.MAX_ROWS:
            raise TooMany(Base.MAX_ROWS)
        broken = [rule for rule in scheme.rules if _is_broken(self, rule)]
        if broken:
            raise BrokenRule(broken[0])

    @classmethod
    def empty(cls, scheme):
        """The base without rows."""
        return cls(scheme)

    @property
    def scheme(self):
        """The scheme."""
        return self._scheme

    @property
    def size(self):
        """The number of stored rows."""
        return _how_many_living(self._living) + _how_many_copies(self._gone)

    def living(self, table):
        """The ascending tuple of the living rows of a table."""
        if table not in self._scheme:
            raise UnknownName(table)
        return self._living[table]

    def gone(self, table):
        """A dict from the gone rows of a table to their numbers of copies."""
        if table not in self._scheme:
            raise UnknownName(table)
        copies = self._gone[table]
        return {row: copies[row] for row in copies}

    def alive(self):
        """The base of the living rows."""
        return Base(self._scheme, living=self._living)

    def on(self, scheme):
        """The base of another scheme with the same rows."""
        if not isinstance(scheme, Scheme):
            raise InvalidScheme("no scheme")
        if not have_same_tables(self._scheme, scheme):
            raise InvalidOperation("the scheme has other tables")
        gone = {name: tuple(_with_copies(self._gone[name])) for name in self._gone}
        return Base(scheme, living=self._living, gone=gone)

    def __getitem__(self, at):
        table, row = at
        check_row(self._scheme, table, row)
        return row in self._living[table], self._gone[table].get(row, 0)

    def __iter__(self):
        raise TypeError("a base cannot be iterated over")

    def __contains__(self, value):
        if not isinstance(value, tuple) or len(value) != 2 or value[0] not in self._scheme:
            return False
        table, row = value
        if not is_row_of(row, self._scheme[table].width):
            return False
        return row in self._living[table] or row in self._gone[table]

    def __eq__(self, other):
        return (
            isinstance(other, Base)
            and self._scheme == other._scheme
            and self._living == other._living
            and self._gone == other._gone
        )

    def __str__(self):
        return f"base of {_how_many_living(self._living)} living rows, {_how_many_copies(self._gone)} copies"


def with_rows(base, table, living, gone):
    """The base in which this table has these rows instead.

    It is not checked again, as a store makes many of them: the caller sees to it that they keep the rules.
    """
    result = Base.empty(base.scheme)
    result._living = {name: base._living[name] for name in base._living}
    result._living[table] = tuple(sorted(living))
    result._gone = {name: base._gone[name] for name in base._gone}
    result._gone[table] = {row: gone[row] for row in sorted(gone)}
    return result


def _are_rows(scheme, value):
    """Whether the value is None, or a dict from names of tables to tuples of their rows."""
    if value is None:
        return True
    if not isinstance(value, dict):
        return False
    return all([_are_rows_of(scheme, name, value[name]) for name in value])


def _are_rows_of(scheme, name, rows):
    if name not in scheme or not isinstance(rows, tuple):
        return False
    width = scheme[name].width
    return all([is_row_of(row, width) for row in rows])


def _has_row_twice(living):
    if living is None:
        return False
    return any([len(set(living[name])) < len(living[name]) for name in living])


def _sorted_rows(rows, name):
    if rows is None:
        return ()
    return tuple(sorted(rows.get(name, ())))


def _counted(rows):
    counts = {}
    for row in rows:
        counts[row] = counts.get(row, 0) + 1
    return counts


def _with_copies(counts):
    """The list of the rows, each as often as it is counted."""
    return [row for row in counts for _ in range(counts[row])]


def _how_many_living(living):
    return sum([len(living[name]) for name in living])


def _how_many_copies(gone):
    return sum([many for name in gone for many in gone[name].values()])


def _is_broken(base, rule):
    name = rule[1]
    if rule[0] == "refers":
        return _lacks_target(base, name, rule[2], rule[3])
    rows = list(base.living(name))
    if rule[0] == "all":
        rows.extend(_with_copies(base.gone(name)))
    columns = base.scheme[name].key
    return len(set([picked(row, columns) for row in rows])) < len(rows)


def _lacks_target(base, name, columns, target):
    key = base.scheme[target].key
    keys = {picked(row, key): True for row in base.living(target)}
    return any([picked(row, columns) not in keys for row in base.living(name)])
