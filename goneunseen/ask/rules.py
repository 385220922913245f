"""Rules: a head over places, perhaps without parts."""

from goneunseen.ask.places import Place, places_of, triples_of
from goneunseen.ask.sound import Sound
from goneunseen.errors import InvalidNumber, InvalidOperation, InvalidRule, InvalidScheme
from goneunseen.scheme.names import is_name, is_term, is_whole
from goneunseen.scheme.schemes import Scheme

_LONGEST_HEAD = 4
_MOST_PLACES = 6
_MOST_PARTS = 3


class Rule:
    """What holds if its places do, and none of its parts does; a rule never changes."""

    def __init__(self, head, *places, without=()):
        self._head = head
        self._places = places
        if isinstance(without, Sound):
            self._parts = without.worth
        else:
            self._parts = without
            _check_head(head)
            _check_places(places, _MOST_PLACES)
            _check_without(places, without)
            _check_variables(head, places, without)

    @classmethod
    def of(cls, head, places, *, without=()):
        """The rule with a tuple of places."""
        if not isinstance(places, tuple):
            raise InvalidRule("the places are no tuple")
        return cls(head, *places, without=without)

    @property
    def head(self):
        """The terms of the head."""
        return self._head

    @property
    def places(self):
        """The places, not those of parts."""
        return self._places

    @property
    def parts(self):
        """The parts without which the rule is."""
        return self._parts

    @property
    def listed(self):
        """The places, not those of parts."""
        return self._places

    @property
    def variables(self):
        """The variables of the places, ascending."""
        return tuple(sorted(set([term for term in _terms_in(self._places) if isinstance(term, str)])))

    @property
    def integers(self):
        """The integers in the head, the places and the parts, ascending."""
        inside = [term for part in self._parts for term in _terms_in(part)]
        terms = [*self._head, *_terms_in(self._places), *inside]
        return tuple(sorted(set([term for term in terms if isinstance(term, int)])))

    def renamed(self, names):
        """The rule with other variables."""
        if not isinstance(names, dict) or not all([is_name(name) and is_name(names[name]) for name in names]):
            raise InvalidOperation("no dict from names to names")
        parts = tuple([_renamed_places(part, names) for part in self._parts])
        return Rule.of(_renamed_terms(self._head, names), _renamed_places(self._places, names), without=parts)

    def __and__(self, other):
        return Rule(self._head, *self._places, other, without=self._parts)

    def __len__(self):
        return len(self._places)

    def __iter__(self):
        return iter(self._places)

    def __getitem__(self, at):
        if not is_whole(at) or not 0 <= at < len(self._places):
            raise InvalidNumber(at)
        return self._places[at]

    def __contains__(self, value):
        return value in self._places

    def __eq__(self, other):
        return (
            isinstance(other, Rule)
            and self._head == other._head
            and self._places == other._places
            and self._parts == other._parts
        )

    def __str__(self):
        return f"({_texts(self._head)}) if {_texts(self._places)}{_parts_text(self._parts)}"


def tables_fit(scheme, rule):
    """Whether all places of the rule have tables of the scheme as sources, as wide as they are."""
    if not isinstance(scheme, Scheme):
        raise InvalidScheme("no scheme")
    if not isinstance(rule, Rule):
        raise InvalidRule("no rule")
    widths = {table.name: table.width for table in scheme}
    inside = [place for part in rule._parts for place in part]
    return all([len(terms) == widths.get(source) for source, terms, _ in triples_of([*rule._places, *inside])])


def outline_of(rule):
    """The head of a rule and the triples of its places: what is asked of many rules is asked of their outlines."""
    return rule._head, triples_of(rule._places)


def rule_of(head, triples):
    """The rule without parts that has this outline, which comes from other rules."""
    places, mark = places_of(triples), Sound(())
    return Rule(head, *places, without=mark)


def _check_head(head):
    if not isinstance(head, tuple) or len(head) > _LONGEST_HEAD or not all([is_term(term) for term in head]):
        raise InvalidRule("a head is a tuple of at most four terms")


def _check_places(places, most):
    if not isinstance(places, tuple) or not 1 <= len(places) <= most:
        raise InvalidRule("the places are one to six, together with those of any one part")
    if not all([isinstance(place, Place) for place in places]):
        raise InvalidRule("one of the places is no place")


def _check_without(places, parts):
    if not isinstance(parts, tuple) or len(parts) > _MOST_PARTS:
        raise InvalidRule("the parts are a tuple of at most three")
    for part in parts:
        _check_places(part, _MOST_PLACES - len(places))


def _check_variables(head, places, parts):
    terms = _terms_in(places)
    if not all([term in terms for term in head if isinstance(term, str)]):
        raise InvalidRule("a variable of the head stands in no place")
    if parts and not all([term in head for term in terms if isinstance(term, str)]):
        raise InvalidRule("with parts, the head has all variables of the places")


def _terms_in(places):
    """The terms of the places, as often as they stand there."""
    return [term for _, terms, _ in triples_of(places) for term in terms]


def _renamed_terms(terms, names):
    return tuple([names.get(term, term) for term in terms])


def _renamed_places(places, names):
    triples = [(source, _renamed_terms(terms, names), filtered) for source, terms, filtered in triples_of(places)]
    return tuple(places_of(triples))


def _texts(parts):
    return ", ".join([str(part) for part in parts])


def _parts_text(parts):
    return "".join([f" without {_texts(part)}" for part in parts])
