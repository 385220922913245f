"""Spots: where places stand in the rules of a program."""

from goneunseen.ask.sound import Sound
from goneunseen.errors import InvalidOperation, InvalidSpot
from goneunseen.scheme.names import is_name, is_whole


class Spots:
    """A set of spots, triples of the name of a view, the index of a rule and the index of a place."""

    def __init__(self, *spots):
        if len(spots) == 1 and isinstance(spots[0], Sound):
            self._spots = spots[0].worth
        else:
            self._spots = _checked_spots(spots)

    @classmethod
    def of(cls, spots):
        """The set of a tuple of spots."""
        if not isinstance(spots, tuple):
            raise InvalidSpot("the spots are no tuple")
        return cls(*spots)

    @property
    def listed(self):
        """The spots, ascending."""
        return self._spots

    def within(self, other):
        """Whether the other set has all these spots."""
        _check_is_spots(other)
        return all([spot in other._spots for spot in self._spots])

    def __or__(self, other):
        _check_is_spots(other)
        return Spots(Sound(tuple(sorted(set([*self._spots, *other._spots])))))

    def __and__(self, other):
        _check_is_spots(other)
        return Spots(Sound(tuple([spot for spot in self._spots if spot in other._spots])))

    def __sub__(self, other):
        _check_is_spots(other)
        return Spots(Sound(tuple([spot for spot in self._spots if spot not in other._spots])))

    def __len__(self):
        return len(self._spots)

    def __bool__(self):
        return bool(self._spots)

    def __iter__(self):
        return iter(self._spots)

    def __contains__(self, value):
        return _is_spot(value) and value in self._spots

    def __eq__(self, other):
        return isinstance(other, Spots) and self._spots == other._spots

    def __str__(self):
        return "".join(["{", ", ".join([_spot_text(spot) for spot in self._spots]), "}"])


def spots_of(spots):
    """The set of a list of different spots that are known to be some."""
    return Spots(Sound(tuple(sorted(spots))))


def _checked_spots(spots):
    if not all([_is_spot(spot) for spot in spots]):
        raise InvalidSpot("a spot is a triple of a name and two integers of at least 0")
    return tuple(sorted(set(spots)))


def _is_spot(value):
    if not isinstance(value, tuple) or len(value) != 3 or not is_name(value[0]):
        return False
    return all([is_whole(index) and index >= 0 for index in value[1:]])


def _check_is_spots(value):
    if not isinstance(value, Spots):
        raise InvalidOperation("no set of spots")


def _spot_text(spot):
    name, index, at = spot
    return f"{name} {index} {at}"
