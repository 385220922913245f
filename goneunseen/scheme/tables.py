"""Tables: their columns, their keys and their references."""

from goneunseen.errors import InvalidNumber, InvalidOperation, InvalidRow, InvalidTable
from goneunseen.scheme.names import is_name, is_row_of, is_whole

_MOST_COLUMNS = 4
_MOST_REFERENCES = 4


class Table:
    """A table as a scheme tells it, without rows."""

    MAX_WIDTH = 4

    def __init__(self, name, width, *, key=None, scope="living", refers=()):
        if not is_name(name):
            raise InvalidTable("a table needs a name")
        if not _is_width(width):
            raise InvalidTable("a table has one to four columns")
        if key is not None and not _is_ascending(key, width):
            raise InvalidTable("a key is an ascending tuple of columns")
        if scope != "living" and (scope != "all" or key is None):
            raise InvalidTable("a scope is living, or all beside a key")
        if not _are_references(refers, width):
            raise InvalidTable("references are at most four different pairs of columns and a name")
        self._name = name
        self._width = width
        self._key = key
        self._scope = scope
        self._refers = tuple(sorted(refers))

    @property
    def name(self):
        """The name."""
        return self._name

    @property
    def width(self):
        """The number of columns."""
        return self._width

    @property
    def key(self):
        """The columns of the key, or None."""
        return self._key

    @property
    def scope(self):
        """The scope of the key."""
        return self._scope

    @property
    def refers(self):
        """The references, ascending."""
        return self._refers

    def key_of(self, row):
        """The key of the row."""
        self._check_row(row)
        if self._key is None:
            raise InvalidOperation("the table has no key")
        return picked(row, self._key)

    def told(self, row, index):
        """What the row tells by the reference with this index."""
        self._check_row(row)
        if not is_whole(index) or not 0 <= index < len(self._refers):
            raise InvalidNumber(index)
        return picked(row, self._refers[index][0])

    @staticmethod
    def is_key(value, width):
        """Whether the value is a possible key of a table of this width."""
        if not _is_width(width):
            raise InvalidNumber(width)
        return _is_ascending(value, width)

    def __eq__(self, other):
        return (
            isinstance(other, Table)
            and self._name == other._name
            and self._width == other._width
            and self._key == other._key
            and self._scope == other._scope
            and self._refers == other._refers
        )

    def _check_row(self, row):
        if not is_row_of(row, self._width):
            raise InvalidRow("the table has no such row")


def key_columns(table):
    """The columns by which living rows of a table are told apart: without a key, a row counts as its own key."""
    return tuple(range(table._width)) if table._key is None else table._key


def plan_of(table):
    """What is asked of a table most often.

    Its width, the columns by which living rows are told apart, whether gone ones are, too, and the references.
    """
    return table._width, key_columns(table), table._scope == "all", table._refers


def picked(row, columns):
    """The tuple of what a row has in these columns."""
    # Most keys have one column, and this is asked very often.
    if len(columns) == 1:
        return (row[columns[0]],)
    return tuple([row[column] for column in columns])


def _is_width(value):
    return is_whole(value) and 1 <= value <= Table.MAX_WIDTH


def _are_columns(value, width):
    if not isinstance(value, tuple) or not 1 <= len(value) <= _MOST_COLUMNS:
        return False
    return all([is_whole(column) and 0 <= column < width for column in value])


def _is_ascending(value, width):
    return _are_columns(value, width) and list(value) == sorted(set(value))


def _is_reference(value, width):
    return isinstance(value, tuple) and len(value) == 2 and _are_columns(value[0], width) and is_name(value[1])


def _are_references(value, width):
    if not isinstance(value, tuple) or len(value) > _MOST_REFERENCES:
        return False
    return all([_is_reference(pair, width) for pair in value]) and len(set(value)) == len(value)
