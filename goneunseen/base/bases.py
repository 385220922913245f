"""Bases: the living rows and the copies of the gone rows in the tables of a scheme."""

from goneunseen.errors import BrokenRule, InvalidBase, InvalidOperation, InvalidScheme, TooMany, UnknownName
from goneunseen.scheme.names import is_row_of
from goneunseen.scheme.schemes import Scheme, check_row, have_same_tables, plans_of
from goneunseen.scheme.tables import picked


class Kept:
    """Rows that are known to keep the rules of their scheme: dicts from its tables to what a base has of them."""

    def __init__(self, living, gone):
        self.living_rows = living
        self.gone_rows = gone


class Base:
    """Rows that keep the rules of their scheme; a base never changes."""

    MAX_ROWS = 100

    def __init__(self, scheme, *, living=None, gone=None):
        if not isinstance(scheme, Scheme):
            raise InvalidScheme("a base needs a scheme")
        if isinstance(living, Kept):
            kept = living
        elif living is None and gone is None:
            kept = _no_rows(scheme)
        else:
            kept = _checked_rows(scheme, living, gone)
        self._scheme = scheme
        self._living = kept.living_rows
        self._gone = kept.gone_rows
        # The different rows of tables, as they are asked for.
        self._different = {}

    @classmethod
    def empty(cls, scheme):
        """The base without rows."""
        return cls(scheme)

    @property
    def scheme(self):
        """The scheme."""
        return self._scheme

    @property
    def size(self):
        """The number of stored rows."""
        return _how_many_living(self._living) + _how_many_copies(self._gone)

    def living(self, table):
        """The ascending tuple of the living rows of a table."""
        if not isinstance(table, str) or table not in self._living:
            raise UnknownName(table)
        return self._living[table]

    def gone(self, table):
        """A dict from the gone rows of a table to their numbers of copies."""
        if not isinstance(table, str) or table not in self._gone:
            raise UnknownName(table)
        copies = self._gone[table]
        return {row: copies[row] for row in copies}

    def alive(self):
        """The base of the living rows."""
        return Base(self._scheme, living=self._living)

    def on(self, scheme):
        """The base of another scheme with the same rows."""
        if not isinstance(scheme, Scheme):
            raise InvalidScheme("no scheme")
        if not have_same_tables(self._scheme, scheme):
            raise InvalidOperation("the scheme has other tables")
        gone = {name: tuple(_with_copies(self._gone[name])) for name in self._gone}
        return Base(scheme, living=self._living, gone=gone)

    def __getitem__(self, at):
        table, row = at
        check_row(self._scheme, table, row)
        return row in self._living[table], self._gone[table].get(row, 0)

    def __iter__(self):
        raise TypeError("a base cannot be iterated over")

    def __contains__(self, value):
        if not isinstance(value, tuple) or len(value) != 2 or value[0] not in self._scheme:
            return False
        table, row = value
        if not is_row_of(row, self._scheme[table].width):
            return False
        return row in self._living[table] or row in self._gone[table]

    def __eq__(self, other):
        return (
            isinstance(other, Base)
            and self._scheme == other._scheme
            and self._living == other._living
            and self._gone == other._gone
        )

    def __str__(self):
        return f"base of {_how_many_living(self._living)} living rows, {_how_many_copies(self._gone)} copies"


def kept_rows(base, table):
    """The living rows and the dict of the gone rows of a table, as they are kept: only to be looked at."""
    return base._living[table], base._gone[table]


def has_gone(base, table):
    """Whether a table has gone rows."""
    return len(base._gone[table]) > 0


def different_rows(base, table, only_living):
    """The tuple of the different stored rows of a table, in any order, or of its living rows."""
    living, gone = base._living[table], base._gone[table]
    if only_living or not gone:
        return living
    if table not in base._different:
        base._different[table] = (*gone, *[row for row in living if row not in gone])
    return base._different[table]


def base_of(scheme, living, gone):
    """The base with the rows of dicts from the tables: lists of the living rows, and dicts of the gone ones.

    It is not checked, as many of them are made: the caller sees to it that they keep the rules.
    """
    alive = {name: tuple(sorted(living[name])) for name in living}
    copies = {name: _ascending(gone[name]) for name in gone}
    return Base(scheme, living=Kept(alive, copies))


def with_row(base, table, row, is_living, copies):
    """The base in which a row is living or not, and has so many copies; it is not checked either."""
    living, gone = base._living[table], base._gone[table]
    if is_living != (row in living):
        others = [other for other in living if other != row]
        living = tuple(sorted([*others, row])) if is_living else tuple(others)
    if copies != gone.get(row, 0):
        gone = _counted_anew(gone, row, copies)
    return Base(base._scheme, living=Kept({**base._living, table: living}, {**base._gone, table: gone}))


def _no_rows(scheme):
    names = plans_of(scheme)
    return Kept({name: () for name in names}, {name: {} for name in names})


def _checked_rows(scheme, living, gone):
    """The rows of a base, if they are rows of the scheme and keep its rules."""
    plans = plans_of(scheme)
    if not _are_rows(plans, living) or _has_row_twice(living):
        raise InvalidBase("the living rows are no dict from tables to tuples of different rows")
    if not _are_rows(plans, gone):
        raise InvalidBase("the gone rows are no dict from tables to tuples of rows")
    alive = {name: _sorted_rows(living, name) for name in plans}
    copies = {name: _copies_of_rows(_sorted_rows(gone, name)) for name in plans}
    if _how_many_living(alive) + _how_many_copies(copies) > Base.MAX_ROWS:
        raise TooMany(Base.MAX_ROWS)
    for rule in scheme.rules:
        if _is_broken(plans, alive, copies, rule):
            raise BrokenRule(rule)
    return Kept(alive, copies)


def _are_rows(plans, value):
    """Whether the value is None, or a dict from names of tables to tuples of their rows."""
    if value is None:
        return True
    if not isinstance(value, dict):
        return False
    return all([_are_rows_of(plans, name, value[name]) for name in value])


def _are_rows_of(plans, name, rows):
    if name not in plans or not isinstance(rows, tuple):
        return False
    width = plans[name][0]
    return all([is_row_of(row, width) for row in rows])


def _has_row_twice(living):
    if living is None:
        return False
    return any([len(set(living[name])) < len(living[name]) for name in living])


def _sorted_rows(rows, name):
    if rows is None:
        return ()
    return tuple(sorted(rows.get(name, ())))


def _copies_of_rows(rows):
    counts = {}
    for row in rows:
        counts[row] = counts.get(row, 0) + 1
    return counts


def _ascending(counts):
    return {row: counts[row] for row in sorted(counts)} if counts else {}


def _counted_anew(counts, row, many):
    """The counts, ascending, in which a row is counted otherwise."""
    if many == 0:
        return {other: counts[other] for other in counts if other != row}
    changed = {**counts, row: many}
    return changed if row in counts else _ascending(changed)


def _with_copies(counts):
    """The list of the rows, each as often as it is counted."""
    return [row for row in counts for _ in range(counts[row])]


def _how_many_living(living):
    return sum([len(living[name]) for name in living])


def _how_many_copies(gone):
    return sum([many for name in gone for many in gone[name].values()])


def _is_broken(plans, living, gone, rule):
    name = rule[1]
    if rule[0] == "refers":
        key = plans[rule[3]][1]
        keys = {picked(row, key): True for row in living[rule[3]]}
        return any([picked(row, rule[2]) not in keys for row in living[name]])
    rows = [*living[name], *_with_copies(gone[name])] if rule[0] == "all" else living[name]
    columns = plans[name][1]
    return len(set([picked(row, columns) for row in rows])) < len(rows)
