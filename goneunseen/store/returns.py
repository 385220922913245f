"""Coming back: what has to come back together with a gone row, or what hinders it."""

from goneunseen.base.bases import Base
from goneunseen.errors import InvalidBase, NotGone
from goneunseen.scheme.names import is_row, is_whole
from goneunseen.scheme.tables import picked
from goneunseen.store.commands import behind_or_none, has_living, is_command, rival


def return_paper(base, table, row):
    """A pair that tells a tight return or a hindrance of a gone row."""
    _check_gone(base, table, row)
    reasons = _reasons(base)
    if (table, row) in reasons:
        return "hindered", _hindrance(base, table, row, reasons)
    return "back", _way_back(base, table, row, reasons)


def is_return(base, table, row, value):
    """Whether the value is a return of a gone row."""
    _check_gone(base, table, row)
    return _brings_back(base, table, row, value)


def is_tight_return(base, table, row, value):
    """Whether the value is a return that is none without any one of its other commands."""
    _check_gone(base, table, row)
    if not _brings_back(base, table, row, value):
        return False
    shorter = [value[:index] + value[index + 1:] for index in range(len(value) - 1)]
    return not any([_brings_back(base, table, row, commands) for commands in shorter])


def is_hindrance(base, table, row, value):
    """Whether the value is a hindrance of a gone row."""
    _check_gone(base, table, row)
    if not isinstance(value, tuple) or not value:
        return False
    earlier = {}
    for entry in value:
        if not _is_gone_entry(base, entry) or (entry[0], entry[1]) in earlier:
            return False
        if not _is_reason(base, entry[0], entry[1], entry[2], earlier):
            return False
        earlier[entry[0], entry[1]] = True
    return value[-1][0] == table and value[-1][1] == row


def _check_gone(base, table, row):
    if not isinstance(base, Base):
        raise InvalidBase("no base")
    _, copies = base[table, row]
    if copies == 0:
        raise NotGone(row)


def _gone_with_key(base, name, key):
    columns = base.scheme[name].key
    return [row for row in base.gone(name) if picked(row, columns) == key]


def _reasons(base):
    """A dict from the gone rows that cannot come back to the reasons, in the order of the tables."""
    reasons = {}
    for table in base.scheme:
        for row in base.gone(table.name):
            reason = _reason(base, table, row, reasons)
            if reason is not None:
                reasons[table.name, row] = reason
    return reasons


def _reason(base, table, row, reasons):
    """Why a gone row cannot come back, or None; the reasons of earlier tables are told."""
    other = rival(table, row, base.living(table.name))
    if other is not None:
        return "taken", other
    for index in range(len(table.refers)):
        if _is_lacking(base, table, row, index, reasons):
            return "lacks", index
    return None


def _is_lacking(base, table, row, index, hindered):
    """Whether a reference tells a key that no row of the target has but gone rows that are hindered."""
    columns, target = table.refers[index]
    key = picked(row, columns)
    if has_living(base, target, key):
        return False
    return all([(target, other) in hindered for other in _gone_with_key(base, target, key)])


def _hindrance(base, table, row, reasons):
    """The reason for a gone row, behind the reasons on which it rests."""
    wanted = {(table, row): True}
    # Later tables come first, so all that rests on a reason has been seen before it.
    for name, other in reversed(list(reasons)):
        word, what = reasons[name, other]
        if word == "lacks" and (name, other) in wanted:
            columns, target = base.scheme[name].refers[what]
            for needed in _gone_with_key(base, target, picked(other, columns)):
                wanted[target, needed] = True
    return tuple([(name, other, reasons[name, other]) for name, other in reasons if (name, other) in wanted])


def _way_back(base, table, row, reasons):
    """The commands that bring back a gone row and what it needs: one row for each key, so it is tight."""
    wanted = {(table, row): True}
    names = base.scheme.names
    for name in reversed(list(names)):
        rows = [other for other in base.gone(name) if (name, other) in wanted]
        for other in rows:
            for pair in _needed_back(base, name, other, reasons):
                wanted[pair] = True
    return tuple([("back", name, other) for name in names for other in base.gone(name) if (name, other) in wanted])


def _needed_back(base, name, row, reasons):
    """Gone rows that can come back, one for each key that the row tells and no living row has."""
    needed = []
    for columns, target in base.scheme[name].refers:
        key = picked(row, columns)
        if not has_living(base, target, key):
            free = [other for other in _gone_with_key(base, target, key) if (target, other) not in reasons]
            needed.append((target, free[0]))
    return needed


def _brings_back(base, table, row, value):
    if not isinstance(value, tuple) or not value:
        return False
    if not all([is_command(command) and command[0] == "back" for command in value]):
        return False
    if value[-1] != ("back", table, row):
        return False
    # That the commands are different needs no look: a row that is back already cannot come back again.
    for command in value:
        base = behind_or_none(base, command)
        if base is None:
            return False
    return True


def _is_gone_entry(base, entry):
    """Whether an entry is a triple for a gone row, whatever its reason is."""
    if not isinstance(entry, tuple) or len(entry) != 3 or (entry[0], entry[1]) not in base:
        return False
    _, copies = base[entry[0], entry[1]]
    return copies > 0


def _is_reason(base, name, row, value, earlier):
    """Whether the value is a reason why the row cannot come back, if the earlier ones cannot."""
    if not isinstance(value, tuple) or len(value) != 2:
        return False
    table = base.scheme[name]
    if value[0] == "taken":
        return is_row(value[1]) and value[1] == rival(table, row, base.living(name))
    if value[0] != "lacks" or not is_whole(value[1]) or not 0 <= value[1] < len(table.refers):
        return False
    return _is_lacking(base, table, row, value[1], earlier)
