"""Coming back: what has to come back together with a gone row, or what hinders it."""

from goneunseen.base.bases import Base
from goneunseen.errors import InvalidBase, NotGone
from goneunseen.scheme.names import is_row, is_whole
from goneunseen.store.commands import is_command
from goneunseen.store.keyed import Keyed


def return_paper(base, table, row):
    """A pair that tells a tight return or a hindrance of a gone row."""
    _check_gone(base, table, row)
    keyed = Keyed(base)
    reasons = _reasons(base, keyed)
    if (table, row) in reasons:
        return "hindered", _hindrance(keyed, table, row, reasons)
    return "back", _way_back(base, keyed, table, row, reasons)


def is_return(base, table, row, value):
    """Whether the value is a return of a gone row."""
    _check_gone(base, table, row)
    return _brings_back(base, table, row, value)


def is_tight_return(base, table, row, value):
    """Whether the value is a return that is none without any one of its other commands."""
    _check_gone(base, table, row)
    if not _brings_back(base, table, row, value):
        return False
    # Without a command, what is refused can only be a row that refers to its row: no other row with its key is living.
    keyed, needed = Keyed(base), {}
    for _, name, other in value:
        for pair in keyed.needed_by(name, other):
            needed[pair] = True
    return all([(name, keyed.key_of(name, other)) in needed for _, name, other in value[:-1]])


def is_hindrance(base, table, row, value):
    """Whether the value is a hindrance of a gone row."""
    _check_gone(base, table, row)
    if not isinstance(value, tuple) or not value:
        return False
    keyed, earlier = Keyed(base), {}
    for entry in value:
        if not _is_gone_entry(base, entry) or (entry[0], entry[1]) in earlier:
            return False
        if not _is_reason(keyed, entry[0], entry[1], entry[2], earlier):
            return False
        earlier[entry[0], entry[1]] = True
    return value[-1][0] == table and value[-1][1] == row


def _check_gone(base, table, row):
    if not isinstance(base, Base):
        raise InvalidBase("no base")
    if not _is_gone(base, table, row):
        raise NotGone(row)


def _is_gone(base, table, row):
    _, copies = base[table, row]
    return copies > 0


def _reasons(base, keyed):
    """A dict from the gone rows that cannot come back to the reasons, in the order of the tables."""
    reasons = {}
    for name in base.scheme.names:
        for row in base.gone(name):
            reason = _reason(keyed, name, row, reasons)
            if reason is not None:
                reasons[name, row] = reason
    return reasons


def _reason(keyed, name, row, reasons):
    """Why a gone row cannot come back, or None; the reasons of earlier tables are told."""
    other = keyed.rival_of(name, row)
    if other is not None:
        return "taken", other
    for index, (target, key) in enumerate(keyed.needed_by(name, row)):
        if _is_lacking(keyed, target, key, reasons):
            return "lacks", index
    return None


def _is_lacking(keyed, target, key, hindered):
    """Whether no row of the target has the key but gone rows that are hindered."""
    if keyed.living_with(target, key) is not None:
        return False
    return all([(target, other) in hindered for other in keyed.gone_with(target, key)])


def _hindrance(keyed, table, row, reasons):
    """The reason for a gone row, behind the reasons on which it rests."""
    wanted = {(table, row): True}
    # Later tables come first, so all that rests on a reason has been seen before it.
    for name, other in reversed(list(reasons)):
        word, what = reasons[name, other]
        if word == "lacks" and (name, other) in wanted:
            target, key = keyed.needed_by(name, other)[what]
            for needed in keyed.gone_with(target, key):
                wanted[target, needed] = True
    return tuple([(name, other, reasons[name, other]) for name, other in reasons if (name, other) in wanted])


def _way_back(base, keyed, table, row, reasons):
    """The commands that bring back a gone row and what it needs: one row for each key, so it is tight."""
    wanted = {(table, row): True}
    names = base.scheme.names
    for name in reversed(list(names)):
        rows = [other for place, other in wanted if place == name]
        for other in rows:
            for pair in _needed_back(keyed, name, other, reasons):
                wanted[pair] = True
    return tuple([("back", name, other) for name in names for other in base.gone(name) if (name, other) in wanted])


def _needed_back(keyed, name, row, reasons):
    """Gone rows that can come back, one for each key that the row tells and no living row has."""
    needed = []
    for target, key in keyed.needed_by(name, row):
        if keyed.living_with(target, key) is None:
            free = [other for other in keyed.gone_with(target, key) if (target, other) not in reasons]
            needed.append((target, free[0]))
    return needed


def _brings_back(base, table, row, value):
    if not isinstance(value, tuple) or not value:
        return False
    if not all([is_command(command) and command[0] == "back" for command in value]):
        return False
    if value[-1] != ("back", table, row):
        return False
    # That the commands are different needs no look, nor that their rows are gone: a living row is its own rival.
    keyed = Keyed(base)
    for _, name, other in value:
        if (name, other) not in base or not keyed.can_come_back(name, other):
            return False
        keyed.bring_back(name, other)
    return True


def _is_gone_entry(base, entry):
    """Whether an entry is a triple for a gone row, whatever its reason is."""
    if not isinstance(entry, tuple) or len(entry) != 3 or (entry[0], entry[1]) not in base:
        return False
    return _is_gone(base, entry[0], entry[1])


def _is_reason(keyed, name, row, value, earlier):
    """Whether the value is a reason why the row cannot come back, if the earlier ones cannot."""
    if not isinstance(value, tuple) or len(value) != 2:
        return False
    if value[0] == "taken":
        return is_row(value[1]) and value[1] == keyed.rival_of(name, row)
    needed = keyed.needed_by(name, row)
    if value[0] != "lacks" or not is_whole(value[1]) or not 0 <= value[1] < len(needed):
        return False
    target, key = needed[value[1]]
    return _is_lacking(keyed, target, key, earlier)
