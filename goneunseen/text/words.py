"""Words of texts: integers, rows and columns."""

from goneunseen.scheme.names import is_row

_MOST_DIGITS = 20


def integer_in(word):
    """The integer whose text a word is, or None."""
    digits = word[1:] if word.startswith("-") else word
    if not 1 <= len(digits) <= _MOST_DIGITS or not digits.isascii() or not digits.isdigit():
        return None
    number = int(word)
    return number if str(number) == word else None


def integers_in(word):
    """The tuple of the integers whose text a word is, or None."""
    numbers = tuple([integer_in(part) for part in word.split(",")])
    return None if None in numbers else numbers


def row_in(word):
    """The row whose text a word is, or None."""
    row = integers_in(word)
    return row if is_row(row) else None


def integers_text(numbers):
    """The text of a row, or of columns."""
    return ",".join([str(number) for number in numbers])
