"""Histories: commands that an empty store accepts, and the bases to which they lead."""

from goneunseen.base.bases import Base
from goneunseen.errors import GoneError, InvalidBase, InvalidHistory, Stopped, TooMany, UnknownName
from goneunseen.scheme.schemes import plans_of
from goneunseen.scheme.tables import picked
from goneunseen.store.commands import are_commands
from goneunseen.store.ledger import Ledger

_LONGEST = 2000
_MOST_ROWS = 60


def has_history_form(value):
    """Whether the value is a tuple of so many commands as a history can have."""
    return isinstance(value, tuple) and len(value) <= _LONGEST and are_commands(value)


def run(scheme, history):
    """The base to which the history leads."""
    base = Base.empty(scheme)
    _check_form(history)
    ledger = Ledger(base)
    for index, command in enumerate(history):
        do_or_stop(ledger, command, index)
    return ledger.base_now()


def steps(scheme, history):
    """Yields the bases behind each command of the history."""
    base = Base.empty(scheme)
    _check_form(history)
    ledger = Ledger(base)
    for index, command in enumerate(history):
        do_or_stop(ledger, command, index)
        base = ledger.base_behind(base, command)
        yield base


def is_history(scheme, value):
    """Whether the value is a history of the scheme."""
    base = Base.empty(scheme)
    return has_history_form(value) and Ledger(base).refused_at(value) is None


def history_to(base):
    """A history that leads to the base."""
    if not isinstance(base, Base):
        raise InvalidBase("no base")
    if base.size > _MOST_ROWS:
        raise TooMany(_MOST_ROWS)
    names = base.scheme.names
    plans = plans_of(base.scheme)
    commands = []
    # Later tables come first, as the rows that a copy needs stand in earlier tables: none of them is gone by then.
    for name in reversed(list(names)):
        for row, many in base.gone(name).items():
            commands.extend(_making_copy(plans, name, row) * many)
    commands.extend([("put", name, row) for name in names for row in base.living(name)])
    return tuple(commands)


def is_history_to(base, value):
    """Whether the value is a history that leads to the base."""
    if not isinstance(base, Base):
        raise InvalidBase("no base")
    return end_of(base.scheme, value) == base


def _check_form(history):
    if not has_history_form(history):
        raise InvalidHistory("no tuple of at most 2000 commands")


def do_or_stop(ledger, command, index):
    """Does the command with this index, or raises an error from that for which it is refused."""
    try:
        ledger.do(command)
    except (GoneError, UnknownName, TooMany) as refusal:
        raise Stopped(index) from refusal


def end_of(scheme, value):
    """The base to which the value leads, or None if it is no history of the scheme."""
    if not has_history_form(value):
        return None
    ledger = Ledger(Base.empty(scheme))
    if ledger.refused_at(value) is not None:
        return None
    return ledger.base_now()


def _making_copy(plans, name, row):
    """The commands that make a copy of a row where no row is living, and leave nothing else."""
    puts, takes, purges = [], [("take", name, row)], []
    needed = _needed(plans, name, row) if plans[name][3] else {}
    for place in needed:
        for other in needed[place]:
            puts.append(("put", place, other))
    for _, place, other in reversed(list(puts)):
        takes.append(("take", place, other))
        purges.append(("purge", place, other))
    return [*puts, ("put", name, row), *takes, *purges]


def _needed(plans, name, row):
    """The rows to which a row refers, also through others: a dict from all tables to dicts of their rows."""
    needed = {place: {} for place in plans}
    needed[name][row] = True
    # References lead to earlier tables, so all rows of a table are found ahead of those to which they refer.
    for place in reversed(list(plans)):
        for other in list(needed[place]):
            for columns, target in plans[place][3]:
                needed[target][_row_with(plans[target], picked(other, columns))] = True
    del needed[name][row]
    return needed


def _row_with(plan, told):
    """A row with the key that is told; one key always gets the same row."""
    width, key, _, _ = plan
    parts = [0] * width
    for column, part in zip(key, told):
        parts[column] = part
    return tuple(parts)
