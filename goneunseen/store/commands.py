"""Commands: their form, and what each of them makes of a base."""

from goneunseen.base.bases import Base, with_rows
from goneunseen.errors import GoneError, KeyTaken, Missing, NotGone, NotLiving, Referred, TooMany, UnknownName
from goneunseen.scheme.names import is_name, is_row
from goneunseen.scheme.schemes import check_row
from goneunseen.scheme.tables import picked

_WORDS = ("put", "take", "back", "purge")


def is_command(value):
    """Whether the value has the form of a command."""
    if not isinstance(value, tuple) or len(value) != 3:
        return False
    return value[0] in _WORDS and is_name(value[1]) and is_row(value[2])


def behind(base, command):
    """The base behind a command; raises the error for which it is refused."""
    word, table, row = command
    check_row(base.scheme, table, row)
    if word == "put":
        return _behind_put(base, table, row)
    if word == "take":
        return _behind_take(base, table, row)
    if word == "back":
        return _behind_back(base, table, row)
    return _behind_purge(base, table, row)


def behind_or_none(base, command):
    """The base behind a command, or None if it is refused."""
    try:
        return behind(base, command)
    except (GoneError, UnknownName, TooMany):
        return None


def rival(table, row, others):
    """The first of the other rows beside which the row cannot live in the table, or None."""
    if table.key is None:
        return row if row in others else None
    key = picked(row, table.key)
    for other in others:
        if picked(other, table.key) == key:
            return other
    return None


def has_living(base, name, key):
    """Whether a living row of the table has the key."""
    columns = base.scheme[name].key
    return key in [picked(row, columns) for row in base.living(name)]


def taken_along(base, table, row):
    """The commands that take a living row along with all that refer to it, also through others."""
    found = {(table, row): True}
    names = list(base.scheme.names)
    # References lead to earlier tables only, so one pass in the order of the tables finds all rows.
    for name in names:
        rows = [other for other in base.living(name) if (name, other) in found]
        for other in rows:
            for pair in _referring(base, name, other):
                found[pair] = True
    pairs = [(name, other) for name in names[::-1] for other in base.living(name)]
    return tuple([("take", name, other) for name, other in pairs if (name, other) in found])


def _behind_put(base, name, row):
    table = base.scheme[name]
    stored = list(base.living(name))
    if table.scope == "all":
        stored.extend(list(base.gone(name)))
    _check_alone(table, row, stored)
    _check_references(base, table, row)
    if base.size >= Base.MAX_ROWS:
        raise TooMany(Base.MAX_ROWS)
    return with_rows(base, name, base.living(name) + (row,), base.gone(name))


def _behind_take(base, name, row):
    if row not in base.living(name):
        raise NotLiving(row)
    referring = _referring(base, name, row)
    if referring:
        place, other = referring[0]
        raise Referred(place, other)
    gone = base.gone(name)
    gone[row] = gone.get(row, 0) + 1
    return with_rows(base, name, [other for other in base.living(name) if other != row], gone)


def _behind_back(base, name, row):
    table = base.scheme[name]
    gone = _without_copy(base, name, row)
    # With the scope "all" no other gone row has the key of one that is gone, so the living ones are all that count.
    _check_alone(table, row, base.living(name))
    _check_references(base, table, row)
    return with_rows(base, name, base.living(name) + (row,), gone)


def _behind_purge(base, name, row):
    return with_rows(base, name, base.living(name), _without_copy(base, name, row))


def _without_copy(base, name, row):
    gone = base.gone(name)
    if row not in gone:
        raise NotGone(row)
    gone[row] -= 1
    return {other: gone[other] for other in gone if gone[other] > 0}


def _check_alone(table, row, others):
    other = rival(table, row, others)
    if other is not None:
        raise KeyTaken(other)


def _check_references(base, table, row):
    for columns, target in table.refers:
        wanted = picked(row, columns)
        if not has_living(base, target, wanted):
            raise Missing(target, wanted)


def _referring(base, name, row):
    """The living rows that refer to a row, as pairs with their tables, by the order of the tables."""
    if base.scheme[name].key is None:
        return []
    key = picked(row, base.scheme[name].key)
    pairs = []
    for table in base.scheme:
        ways = [columns for columns, target in table.refers if target == name]
        rows = [other for other in base.living(table.name) if key in [picked(other, columns) for columns in ways]]
        pairs.extend([(table.name, other) for other in rows])
    return pairs
