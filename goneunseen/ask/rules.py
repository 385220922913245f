"""Rules: a head over places, perhaps without parts."""

from goneunseen.ask.places import Place, places_of, triples_of
from goneunseen.ask.sound import Sound
from goneunseen.errors import InvalidNumber, InvalidOperation, InvalidRule, InvalidScheme
from goneunseen.scheme.names import is_integer, is_name, is_whole
from goneunseen.scheme.schemes import Scheme, plans_of

_LONGEST_HEAD = 4
_MOST_PLACES = 6
_MOST_PARTS = 3


class Rule:
    """What holds if its places do, and none of its parts does; a rule never changes."""

    def __init__(self, head, *places, without=()):
        if isinstance(without, Sound):
            parts = without.worth
        else:
            parts = without
            _check_places(places, _MOST_PLACES)
            _check_without(places, parts)
            _check_head(head, places, parts)
        self._head = head
        self._places = places
        self._parts = parts
        self._outline = (head, triples_of(places))
        self._part_triples = tuple([triples_of(part) for part in parts]) if parts else ()
        # What was worked out about the rule is kept with it; none of it shows in what is told.
        self._worked_out = {}

    @classmethod
    def of(cls, head, places, *, without=()):
        """The rule with a tuple of places."""
        if not isinstance(places, tuple):
            raise InvalidRule("the places are no tuple")
        return cls(head, *places, without=without)

    @property
    def head(self):
        """The terms of the head."""
        return self._head

    @property
    def places(self):
        """The places, not those of parts."""
        return self._places

    @property
    def parts(self):
        """The parts without which the rule is."""
        return self._parts

    @property
    def listed(self):
        """The places, not those of parts."""
        return self._places

    @property
    def variables(self):
        """The variables of the places, ascending."""
        return tuple(sorted(set([term for term in _terms_in(self._outline[1]) if isinstance(term, str)])))

    @property
    def integers(self):
        """The integers in the head, the places and the parts, ascending."""
        inside = [term for triples in self._part_triples for term in _terms_in(triples)]
        terms = [*self._head, *_terms_in(self._outline[1]), *inside]
        return tuple(sorted(set([term for term in terms if isinstance(term, int)])))

    def renamed(self, names):
        """The rule with other variables."""
        if not isinstance(names, dict) or not all([is_name(name) and is_name(names[name]) for name in names]):
            raise InvalidOperation("no dict from names to names")
        parts = tuple([_renamed_places(part, names) for part in self._parts])
        return Rule.of(_renamed_terms(self._head, names), _renamed_places(self._places, names), without=parts)

    def __and__(self, other):
        return Rule(self._head, *self._places, other, without=self._parts)

    def __len__(self):
        return len(self._places)

    def __iter__(self):
        return iter(self._places)

    def __getitem__(self, at):
        if not is_whole(at) or not 0 <= at < len(self._places):
            raise InvalidNumber(at)
        return self._places[at]

    def __contains__(self, value):
        return value in self._places

    def __eq__(self, other):
        return (
            isinstance(other, Rule)
            and self._head == other._head
            and self._places == other._places
            and self._parts == other._parts
        )

    def __str__(self):
        return f"({_texts(self._head)}) if {_texts(self._places)}{_parts_text(self._parts)}"


def tables_fit(scheme, rule):
    """Whether all places of the rule have tables of the scheme as sources, as wide as they are."""
    if not isinstance(scheme, Scheme):
        raise InvalidScheme("no scheme")
    if not isinstance(rule, Rule):
        raise InvalidRule("no rule")
    plans = plans_of(scheme)
    for triples in (rule._outline[1], *rule._part_triples):
        for source, terms, _ in triples:
            if source not in plans or plans[source][0] != len(terms):
                return False
    return True


def outline_of(rule):
    """The head of a rule and the triples of its places: what is asked of many rules is asked of their outlines."""
    return rule._outline


def part_triples_of(rule):
    """For each part of a rule the triples of its places."""
    return rule._part_triples


def worked_out(rule):
    """The dict of what was worked out about a rule, as it is kept: to be looked at, and added to."""
    return rule._worked_out


def rule_of(head, triples):
    """The rule without parts that has this outline, which comes from other rules."""
    places, mark = places_of(triples), Sound(())
    return Rule(head, *places, without=mark)


def _check_places(places, most):
    if not isinstance(places, tuple) or not 1 <= len(places) <= most:
        raise InvalidRule("the places are one to six, together with those of any one part")
    if not all([isinstance(place, Place) for place in places]):
        raise InvalidRule("one of the places is no place")


def _check_without(places, parts):
    if not isinstance(parts, tuple) or len(parts) > _MOST_PARTS:
        raise InvalidRule("the parts are a tuple of at most three")
    for part in parts:
        _check_places(part, _MOST_PLACES - len(places))


def _check_head(head, places, parts):
    if not isinstance(head, tuple) or len(head) > _LONGEST_HEAD:
        raise InvalidRule("a head is a tuple of at most four terms")
    terms = _terms_in(triples_of(places))
    for term in head:
        # What stands in a place is a variable; Python counts True as equal to 1, so only strings are looked up.
        if not (term in terms if isinstance(term, str) else is_integer(term)):
            raise InvalidRule("a term of the head is none, or a variable that stands in no place")
    if parts and not all([term in head for term in terms if isinstance(term, str)]):
        raise InvalidRule("with parts, the head has all variables of the places")


def _terms_in(triples):
    """The terms of places, as often as they stand there."""
    return [term for _, terms, _ in triples for term in terms]


def _renamed_terms(terms, names):
    return tuple([names.get(term, term) for term in terms])


def _renamed_places(places, names):
    triples = [(source, _renamed_terms(terms, names), filtered) for source, terms, filtered in triples_of(places)]
    return tuple(places_of(triples))


def _texts(parts):
    return ", ".join([str(part) for part in parts])


def _parts_text(parts):
    return "".join([f" without {_texts(part)}" for part in parts])
