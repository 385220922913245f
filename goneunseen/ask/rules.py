"""Rules: a head over places, perhaps without parts."""

from goneunseen.ask.places import Place
from goneunseen.errors import InvalidNumber, InvalidOperation, InvalidRule, InvalidScheme
from goneunseen.scheme.names import is_name, is_term, is_whole
from goneunseen.scheme.schemes import Scheme

_LONGEST_HEAD = 4
_MOST_PLACES = 6
_MOST_PARTS = 3


class Rule:
    """What holds if its places do, and none of its parts does; a rule never changes."""

    def __init__(self, head, *places, without=()):
        _check_head(head)
        _check_places(places, _MOST_PLACES)
        if not isinstance(without, tuple) or len(without) > _MOST_PARTS:
            raise InvalidRule("the parts are a tuple of at most three")
        for part in without:
            _check_places(part, _MOST_PLACES - len(places))
        variables = _variables_of(places)
        if not all([term in variables for term in head if is_name(term)]):
            raise InvalidRule("a variable of the head stands in no place")
        if without and not all([name in head for name in variables]):
            raise InvalidRule("with parts, the head has all variables of the places")
        self._head = head
        self._places = places
        self._parts = without

    @classmethod
    def of(cls, head, places, *, without=()):
        """The rule with a tuple of places."""
        if not isinstance(places, tuple):
            raise InvalidRule("the places are no tuple")
        return cls(head, *places, without=without)

    @property
    def head(self):
        """The terms of the head."""
        return self._head

    @property
    def places(self):
        """The places, not those of parts."""
        return self._places

    @property
    def parts(self):
        """The parts without which the rule is."""
        return self._parts

    @property
    def listed(self):
        """The places, not those of parts."""
        return self._places

    @property
    def variables(self):
        """The variables of the places, ascending."""
        return _variables_of(self._places)

    @property
    def integers(self):
        """The integers in the head, the places and the parts, ascending."""
        terms = [term for place in _all_places(self) for term in place.terms]
        return tuple(sorted(set([term for term in [*self._head, *terms] if is_whole(term)])))

    def renamed(self, names):
        """The rule with other variables."""
        if not isinstance(names, dict) or not all([is_name(name) and is_name(names[name]) for name in names]):
            raise InvalidOperation("no dict from names to names")
        parts = tuple([_renamed_places(part, names) for part in self._parts])
        return Rule.of(_renamed_terms(self._head, names), _renamed_places(self._places, names), without=parts)

    def __and__(self, other):
        return Rule(self._head, *self._places, other, without=self._parts)

    def __len__(self):
        return len(self._places)

    def __iter__(self):
        return iter(self._places)

    def __getitem__(self, at):
        if not is_whole(at) or not 0 <= at < len(self._places):
            raise InvalidNumber(at)
        return self._places[at]

    def __contains__(self, value):
        return value in self._places

    def __eq__(self, other):
        return (
            isinstance(other, Rule)
            and self._head == other._head
            and self._places == other._places
            and self._parts == other._parts
        )

    def __str__(self):
        return f"({_texts(self._head)}) if {_texts(self._places)}{_parts_text(self._parts)}"


def tables_fit(scheme, rule):
    """Whether all places of the rule have tables of the scheme as sources, as wide as they are."""
    if not isinstance(scheme, Scheme):
        raise InvalidScheme("no scheme")
    if not isinstance(rule, Rule):
        raise InvalidRule("no rule")
    return all([place.source in scheme and len(place) == scheme[place.source].width for place in _all_places(rule)])


def _check_head(head):
    if not isinstance(head, tuple) or len(head) > _LONGEST_HEAD or not all([is_term(term) for term in head]):
        raise InvalidRule("a head is a tuple of at most four terms")


def _check_places(places, most):
    if not isinstance(places, tuple) or not 1 <= len(places) <= most:
        raise InvalidRule("the places are one to six, together with those of any one part")
    if not all([isinstance(place, Place) for place in places]):
        raise InvalidRule("one of the places is no place")


def _variables_of(places):
    return tuple(sorted(set([name for place in places for name in place.variables])))


def _all_places(rule):
    """The places of a rule, and behind them those of its parts."""
    inside = [place for part in rule.parts for place in part]
    return [*rule.places, *inside]


def _renamed_terms(terms, names):
    return tuple([names.get(term, term) for term in terms])


def _renamed_places(places, names):
    return tuple([_renamed(place, names) for place in places])


def _renamed(place, names):
    filtered = place.filtered
    return Place.of(place.source, _renamed_terms(place.terms, names), filtered=filtered)


def _texts(parts):
    return ", ".join([str(part) for part in parts])


def _parts_text(parts):
    return "".join([f" without {_texts(part)}" for part in parts])
