"""The lines of a shell: their form."""

from goneunseen.errors import InvalidCommand
from goneunseen.scheme.names import is_name
from goneunseen.text.words import integer_in, row_in

_FORMS = {
    "put": ("name", "row"),
    "take": ("name", "row"),
    "along": ("name", "row"),
    "back": ("name", "row"),
    "purge": ("name", "row"),
    "undo": ("many",),
    "redo": ("many",),
    "define": ("name", "name", "name", "text"),
    "drop": ("name",),
    "policy": ("name",),
    "adopt": ("text",),
    "tell": ("name",),
    "surplus": ("name",),
    "names": (),
    "parted": (),
    "show": ("name",),
}


def parts_of_line(line):
    """The first word of a line, and what its other words tell."""
    if not isinstance(line, str) or "\n" in line:
        raise InvalidCommand("no line")
    first, _, _ = line.partition(" ")
    if first not in _FORMS:
        raise InvalidCommand("no line begins with this word")
    kinds = _FORMS[first]
    # All behind its blank belongs to a text, whatever blanks it has.
    words = line.split(" ", len(kinds)) if "text" in kinds else line.split(" ")
    if len(words) != len(kinds) + 1:
        raise InvalidCommand("the line has more words, or fewer")
    told = [_told_by_word(kind, word) for kind, word in zip(kinds, words[1:])]
    if None in told:
        raise InvalidCommand("a word of the line is none that can stand there")
    return (first, *told)


def in_one_line(text):
    """The text as it stands in a line."""
    return text.replace("\n", " / ")


def in_several_lines(text):
    """The text that stands so in a line."""
    return text.replace(" / ", "\n")


def _told_by_word(kind, word):
    """What a word tells, or None."""
    if kind == "row":
        return row_in(word)
    if kind == "many":
        many = integer_in(word)
        return None if many is None or many < 0 else many
    if kind == "name" and not is_name(word):
        return None
    return word if word else None
