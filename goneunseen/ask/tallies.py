"""Tallies: how often there are some answers."""

from goneunseen.errors import InvalidOperation, InvalidTally
from goneunseen.scheme.names import is_integer, is_whole

_LONGEST = 4
_TOO_MANY = 10000000000000000000000000000000000000000


class Counted:
    """Counts of a result, which need no check: they can be greater than those that are passed."""

    def __init__(self, counts):
        self.counts = counts


class Tally:
    """Answers with their numbers; a tally never changes."""

    def __init__(self, counts=None):
        told = _passed_counts(counts)
        self._counts = {answer: told[answer] for answer in sorted(told) if told[answer] > 0}

    @property
    def listed(self):
        """The answers, ascending."""
        return tuple(self._counts)

    @property
    def total(self):
        """The sum of the numbers."""
        return sum(list(self._counts.values()))

    def within(self, other):
        """Whether no number is greater than in the other tally."""
        _check_alike(self, other)
        return all([self._counts[answer] <= other[answer] for answer in self._counts])

    def __add__(self, other):
        _check_alike(self, other)
        return Tally(Counted({answer: self[answer] + other[answer] for answer in [*self._counts, *other._counts]}))

    def __sub__(self, other):
        _check_alike(self, other)
        if not other.within(self):
            raise InvalidOperation("a number would be below 0")
        return Tally(Counted({answer: self[answer] - other[answer] for answer in self._counts}))

    def __mul__(self, other):
        return _times(self._counts, other)

    def __rmul__(self, other):
        return _times(self._counts, other)

    def __len__(self):
        return len(self._counts)

    def __bool__(self):
        return bool(self._counts)

    def __iter__(self):
        return iter(self._counts)

    def __getitem__(self, at):
        return self._counts[at] if at in self else 0

    def __contains__(self, value):
        return _is_answer(value) and value in self._counts

    def __eq__(self, other):
        return isinstance(other, Tally) and self._counts == other._counts

    def __str__(self):
        if not self._counts:
            return "none"
        return ", ".join([_answer_text(answer, self._counts[answer]) for answer in self._counts])


def _is_answer(value):
    if not isinstance(value, tuple) or len(value) > _LONGEST:
        return False
    return all([is_integer(part) for part in value])


def _passed_counts(counts):
    if counts is None:
        return {}
    if isinstance(counts, Counted):
        return counts.counts
    if not isinstance(counts, dict) or not all([_is_answer(answer) for answer in counts]):
        raise InvalidTally("no dict from answers")
    if not all([is_whole(many) and 0 <= many < _TOO_MANY for many in counts.values()]):
        raise InvalidTally("a number is no integer of at least 0 and at most forty digits")
    if len(set([len(answer) for answer in counts])) > 1:
        raise InvalidTally("the answers have one length")
    return counts


def _check_alike(tally, other):
    if not isinstance(other, Tally):
        raise InvalidOperation("no tally")
    if len(set([len(answer) for answer in [*tally, *other]])) > 1:
        raise InvalidOperation("the answers have different lengths")


def _times(counts, many):
    if not is_whole(many) or many < 0:
        raise InvalidOperation("no integer of at least 0")
    return Tally(Counted({answer: many * counts[answer] for answer in counts}))


def _answer_text(answer, many):
    return "".join(["(", ", ".join([str(part) for part in answer]), f") * {many}"])
