"""Cores: the fewest rows onto which a frozen rule folds."""

from goneunseen.ask.arguments import check_table_rule
from goneunseen.ask.rules import outline_of
from goneunseen.errors import InvalidOperation, InvalidScheme
from goneunseen.frozen.folds import match_among
from goneunseen.frozen.frozen import carried_by, chased_rule, frozen_by, is_frozen_by
from goneunseen.scheme.names import is_row_of, is_whole
from goneunseen.scheme.schemes import Scheme
from goneunseen.scheme.tables import picked


def core(scheme, rule):
    """A frozen rule, frozen as living, a fold of it onto a core, and the rows of this core."""
    found = _chased_as_living(scheme, rule)
    value, outline = frozen_by(scheme, rule, found, ()), outline_of(rule)
    rows = _living_rows(value[0])
    fold = {number: number for number in _integers(rows)}
    smaller = _smaller_match(scheme, outline, value[2], rows)
    while smaller is not None:
        fold = carried_by(found, value, value[0], smaller)
        rows = _image(value[0], fold)
        smaller = _smaller_match(scheme, outline, value[2], rows)
    return value, _keeping(fold, _integers(rows)), rows


def is_core(scheme, rule, value):
    """Whether the value is a frozen rule, frozen as living, with a fold onto a core and the rows of this core."""
    found = _chased_as_living(scheme, rule)
    if not isinstance(value, tuple) or len(value) != 3 or not is_frozen_by(scheme, rule, found, value[0], ()):
        return False
    if not _is_fold(rule, value[0], value[1]) or not _are_table_rows(scheme, value[2]):
        return False
    # What is carried to no fewer rows is a core, as all cores have equally many.
    image = _image(value[0][0], value[1])
    return value[2] == image and _smaller_match(scheme, outline_of(rule), value[0][2], image) is None


def unreferred(scheme, rows):
    """Those of the rows to which none of them refers, in the same order."""
    if not isinstance(scheme, Scheme):
        raise InvalidScheme("no scheme")
    if not _are_table_rows(scheme, rows) or len(set(rows)) < len(rows):
        raise InvalidOperation("no tuple of different pairs of a table and its row")
    told = {}
    for name, row in rows:
        for columns, target in scheme[name].refers:
            told[target, picked(row, columns)] = True
    return tuple([pair for pair in rows if not _is_told(scheme, pair, told)])


def _is_told(scheme, pair, told):
    """Whether the key of a row is among those that are told."""
    name, row = pair
    key = scheme[name].key
    return key is not None and (name, picked(row, key)) in told


def _chased_as_living(scheme, rule):
    """The numbered rows to which a rule comes, frozen as living; raises an error if it is empty."""
    check_table_rule(scheme, rule)
    rows = chased_rule(scheme, rule, True)
    if rows.is_empty():
        raise InvalidOperation("the rule is empty, frozen as living")
    return rows


def _living_rows(base):
    """The living rows of a base as pairs with their tables, in the order of the tables and then of the rows."""
    return tuple([(name, row) for name in base.scheme.names for row in base.living(name)])


def _integers(rows):
    """The integers in rows, ascending."""
    return sorted(set([number for name, row in rows for number in row]))


def _carried_row(row, fold):
    return tuple([fold[number] for number in row])


def _image(base, fold):
    """The pairs to which the living rows of a base are carried, in the order of the tables and then of the rows."""
    image = {(name, _carried_row(row, fold)): True for name, row in _living_rows(base)}
    return tuple([pair for pair in _living_rows(base) if pair in image])


def _smaller_match(scheme, outline, head, rows):
    """A match that carries a frozen rule to fewer of these rows, to which it can be carried; or None.

    If it can be carried to fewer, then also to all but one to which none of them refers: what it is carried to has
    with each row those to which this one refers.
    """
    for left_out in unreferred(scheme, rows):
        kept = [pair for pair in rows if pair != left_out]
        pairs = [[(row, True) for name, row in kept if name == source] for source, _, _ in outline[1]]
        found = match_among(outline[0], outline[1], head, pairs)
        if found is not None:
            return found
    return None


def _keeping(fold, numbers):
    """The fold behind which the integers of its image are what they were: as it is, it may exchange them."""
    back = {fold[number]: number for number in numbers}
    return {number: back[fold[number]] for number in fold}


def _is_fold(rule, value, fold):
    """Whether the value is a fold of a frozen rule."""
    base, _, head = value
    rows = _living_rows(base)
    numbers = _integers(rows)
    if not isinstance(fold, dict) or not all([is_whole(number) for number in fold]) or sorted(fold) != numbers:
        return False
    if not all([is_whole(fold[number]) and fold[number] in numbers for number in fold]):
        return False
    if not all([fold.get(number, number) == number for number in [*rule.integers, *head]]):
        return False
    # The integers to which it carries others are kept, too.
    if not all([fold[fold[number]] == fold[number] for number in fold]):
        return False
    return all([(name, _carried_row(row, fold)) in rows for name, row in rows])


def _are_table_rows(scheme, value):
    if not isinstance(value, tuple):
        return False
    return all([_is_table_row(scheme, pair) for pair in value])


def _is_table_row(scheme, value):
    if not isinstance(value, tuple) or len(value) != 2 or value[0] not in scheme:
        return False
    return is_row_of(value[1], scheme[value[0]].width)
