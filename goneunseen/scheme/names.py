"""What may stand as a name, an integer, a term or a row."""

_LONGEST_NAME = 8
_TOO_GREAT = 100000000000000000000
_TOO_SMALL = -100000000000000000000
_WIDEST_ROW = 4


def is_name(value):
    """Whether the value is a name."""
    if not isinstance(value, str) or not 1 <= len(value) <= _LONGEST_NAME:
        return False
    return value.isascii() and value.isalpha() and value.islower()


def is_whole(value):
    """Whether the value is an integer, of any number of digits."""
    # Python counts booleans among the integers, the document does not.
    return isinstance(value, int) and not isinstance(value, bool)


def is_integer(value):
    """Whether the value is an integer of at most twenty digits."""
    return is_whole(value) and _TOO_SMALL < value < _TOO_GREAT


def is_term(value):
    """Whether the value is an integer of at most twenty digits or a variable."""
    return is_integer(value) or is_name(value)


def is_row(value):
    """Whether the value is a row."""
    if not isinstance(value, tuple) or not 1 <= len(value) <= _WIDEST_ROW:
        return False
    # Rows are looked at very often, so is_integer is written out here.
    for part in value:
        if not isinstance(part, int) or isinstance(part, bool) or not _TOO_SMALL < part < _TOO_GREAT:
            return False
    return True


def is_row_of(value, width):
    """Whether the value is a row of this width."""
    return is_row(value) and len(value) == width
