"""Journals: steps that are done, undone and done again."""

from goneunseen.errors import InvalidNumber, InvalidOperation, NothingToUndo
from goneunseen.scheme.names import is_name, is_whole


class Journal:
    """It keeps the steps that are done, and those that were undone."""

    def __init__(self):
        # Those that were undone stand behind those that are done, the next one to be done again first.
        self._steps = ()
        self._how_many_done = 0

    @property
    def log(self):
        """The steps that are done."""
        return self._steps[:self._how_many_done]

    @property
    def undone(self):
        """The steps that were undone, the next one to be done again first."""
        return self._steps[self._how_many_done:]

    def enter(self, step):
        """Adds a step that is done, and forgets those that were undone."""
        if not is_journal_step(step):
            raise InvalidOperation("no step")
        self._steps = (*self._steps[:self._how_many_done], step)
        self._how_many_done += 1

    def undo(self, many=1):
        """Undoes steps, and returns them, the last one first."""
        _check_many(many, self._how_many_done)
        steps = self._steps[self._how_many_done - many:self._how_many_done]
        self._how_many_done -= many
        return steps[::-1]

    def redo(self, many=1):
        """Does steps again that were undone, and returns them, the first one first."""
        _check_many(many, len(self._steps) - self._how_many_done)
        steps = self._steps[self._how_many_done:self._how_many_done + many]
        self._how_many_done += many
        return steps


def is_journal_step(value):
    """Whether the value is a tuple of a name and of strings, integers, booleans, None and tuples of these."""
    return isinstance(value, tuple) and len(value) > 0 and is_name(value[0]) and _are_items(value[1:])


def _are_items(value):
    return all([_is_item(part) for part in value])


def _is_item(value):
    if isinstance(value, tuple):
        return _are_items(value)
    return value is None or isinstance(value, (str, int))


def _check_many(many, most):
    if not is_whole(many) or many < 0:
        raise InvalidNumber(many)
    if many > most:
        raise NothingToUndo(many)
