"""Strings in columns, and the rows of a table in columns."""

from goneunseen.base.bases import Base
from goneunseen.errors import InvalidBase, InvalidOperation
from goneunseen.text.formats import row_lines

_MOST_COLUMNS = 8
_LONGEST = 60
_LONGEST_BETWEEN = 10
_SIDES = "<>^"


def in_columns(rows, *, sides="", fill=" ", between=" "):
    """A line for each of the rows, with the strings of each column filled up to the longest one."""
    if not _are_rows_of_strings(rows):
        raise InvalidOperation("the rows are tuples of equally many strings")
    if not _are_sides(sides, rows):
        raise InvalidOperation("the sides are a character for each column")
    if not _is_printable(fill, 1) or len(fill) != 1:
        raise InvalidOperation("what fills is one printable character")
    if not _is_printable(between, _LONGEST_BETWEEN):
        raise InvalidOperation("between the columns are at most ten printable characters")
    columns = len(rows[0]) if rows else 0
    chosen = sides or "<" * columns
    widths = [max([len(row[at]) for row in rows]) for at in range(columns)]
    lines = [[_filled(row[at], widths[at], chosen[at], fill) for at in range(columns)] for row in rows]
    return "\n".join([between.join(line) for line in lines])


def base_columns(base, table):
    """The rows of a table in columns."""
    if not isinstance(base, Base):
        raise InvalidBase("no base")
    rows = []
    for row, words in row_lines(base, table):
        many = words[1] if len(words) > 1 else "1"
        rows.append((*[str(number) for number in row], words[0], many))
    columns = ">" * base.scheme[table].width
    return in_columns(tuple(rows), sides=f"{columns}<>")


def _is_printable(value, most):
    return isinstance(value, str) and len(value) <= most and value.isprintable()


def _are_strings(value):
    if not isinstance(value, tuple) or not 1 <= len(value) <= _MOST_COLUMNS:
        return False
    return all([_is_printable(part, _LONGEST) for part in value])


def _are_rows_of_strings(value):
    if not isinstance(value, tuple) or not all([_are_strings(row) for row in value]):
        return False
    return all([len(row) == len(value[0]) for row in value])


def _are_sides(value, rows):
    if not isinstance(value, str) or not all([letter in _SIDES for letter in value]):
        return False
    if value == "":
        return True
    return len(value) == len(rows[0]) if rows else len(value) <= _MOST_COLUMNS


def _filled(text, width, side, fill):
    missing = width - len(text)
    before = 0
    if side == ">":
        before = missing
    elif side == "^":
        before = missing // 2
    return fill * before + text + fill * (missing - before)
