"""Histories: commands that an empty store accepts, and the bases to which they lead."""

from goneunseen.base.bases import Base
from goneunseen.errors import GoneError, InvalidBase, InvalidHistory, Stopped, TooMany, UnknownName
from goneunseen.scheme.tables import picked
from goneunseen.store.commands import behind, is_command

_LONGEST = 2000
_MOST_ROWS = 60


def has_history_form(value):
    """Whether the value is a tuple of so many commands as a history can have."""
    if not isinstance(value, tuple) or len(value) > _LONGEST:
        return False
    return all([is_command(command) for command in value])


def run(scheme, history):
    """The base to which the history leads."""
    base = Base.empty(scheme)
    # Only the last base counts; the empty history leaves the empty one.
    for base in steps(scheme, history):
        pass
    return base


def steps(scheme, history):
    """Yields the bases behind each command of the history."""
    base = Base.empty(scheme)
    _check_form(history)
    for index, command in enumerate(history):
        base = _behind_step(base, command, index)
        yield base


def is_history(scheme, value):
    """Whether the value is a history of the scheme."""
    return end_of(Base.empty(scheme).scheme, value) is not None


def history_to(base):
    """A history that leads to the base."""
    if not isinstance(base, Base):
        raise InvalidBase("no base")
    if base.size > _MOST_ROWS:
        raise TooMany(_MOST_ROWS)
    names = base.scheme.names
    commands = []
    # Later tables come first, as the rows that a copy needs stand in earlier tables: none of them is gone by then.
    for name in reversed(list(names)):
        for row, many in base.gone(name).items():
            commands.extend(_making_copy(base.scheme, name, row) * many)
    commands.extend([("put", name, row) for name in names for row in base.living(name)])
    return tuple(commands)


def is_history_to(base, value):
    """Whether the value is a history that leads to the base."""
    if not isinstance(base, Base):
        raise InvalidBase("no base")
    return end_of(base.scheme, value) == base


def _check_form(history):
    if not has_history_form(history):
        raise InvalidHistory("no tuple of at most 2000 commands")


def _behind_step(base, command, index):
    try:
        return behind(base, command)
    except (GoneError, UnknownName, TooMany) as refusal:
        raise Stopped(index) from refusal


def end_of(scheme, value):
    """The base to which the value leads, or None if it is no history of the scheme."""
    if not has_history_form(value):
        return None
    try:
        return run(scheme, value)
    except Stopped:
        return None


def _making_copy(scheme, name, row):
    """The commands that make a copy of a row where no row is living, and leave nothing else."""
    needed = _needed(scheme, name, row)
    backwards = needed[::-1]
    puts = [("put", table, other) for table, other in [*needed, (name, row)]]
    takes = [("take", table, other) for table, other in [(name, row), *backwards]]
    return puts + takes + [("purge", table, other) for table, other in backwards]


def _needed(scheme, name, row):
    """Rows to which a row refers, also through others, as pairs with their tables, earlier tables first."""
    needed = {(name, row): True}
    for table in reversed(list(scheme)):
        rows = [other for place, other in needed if place == table.name]
        told = [(target, picked(other, columns)) for other in rows for columns, target in table.refers]
        for target, key in told:
            needed[target, _row_with_key(scheme[target], key)] = True
    del needed[name, row]
    return [(place, other) for table in scheme.names for place, other in needed if place == table]


def _row_with_key(table, key):
    """A row with this key; one key always gets the same row."""
    parts = [0] * table.width
    for column, part in zip(table.key, key):
        parts[column] = part
    return tuple(parts)
