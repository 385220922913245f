"""Commands: their form."""

from goneunseen.scheme.names import is_name, is_row

_WORDS = ("put", "take", "back", "purge")


def is_command(value):
    """Whether the value has the form of a command."""
    if not isinstance(value, tuple) or len(value) != 3:
        return False
    return value[0] in _WORDS and is_name(value[1]) and is_row(value[2])


def are_commands(value):
    """Whether all items of a tuple have the form of commands."""
    return all([is_command(command) for command in value])
