"""Unfolding: rules over views become rules over tables."""

from goneunseen.ask.places import Place
from goneunseen.ask.rules import Rule
from goneunseen.errors import TooMany
from goneunseen.scheme.names import is_name, is_whole

_LETTERS = "abcdefghijklmnopqrstuvwxyz"
_MOST_CHOICES = 12
_MOST_PLACES = 6


def unfolded_views(views):
    """For each view the list of its unfolded rules, each a pair of the rule and the spots of its places."""
    told = {}
    for name in views:
        told[name] = _unfolded_view(name, views[name], told)
    return told


def _unfolded_view(name, rules, earlier):
    if sum([_how_many_choices(rule, earlier) for rule in rules]) > _MOST_CHOICES:
        raise TooMany(_MOST_CHOICES)
    found = []
    for index, rule in enumerate(rules):
        for choice in _choices(rule, earlier):
            stands_for = _equated(rule, choice)
            if stands_for is not None:
                found.append((rule.head, _parted(name, index, rule, choice), stands_for))
    # A rule with more places cannot be made, so they are counted ahead.
    if any([len(parts) > _MOST_PLACES for head, parts, stands_for in found]):
        raise TooMany(_MOST_PLACES)
    return [_made(head, parts, stands_for) for head, parts, stands_for in found]


def _how_many_choices(rule, earlier):
    many = 1
    for place in rule:
        many = many * len(_options(place, earlier))
    return many


def _options(place, earlier):
    """The unfolded rules that can replace a place; a place of a table has only itself."""
    return earlier.get(place.source, [None])


def _choices(rule, earlier):
    """One option for each place, the first place outermost."""
    if _how_many_choices(rule, earlier) == 0:
        return []
    choices = [[]]
    for place in rule:
        choices = [[*choice, option] for choice in choices for option in _options(place, earlier)]
    return choices


def _equated(rule, choice):
    """A dict from terms to equal ones that stand for them, or None if two different integers are equated."""
    stands_for = {}
    for at, (place, option) in enumerate(zip(rule, choice)):
        head = () if option is None else option[0].head
        for term, other in zip(place.terms, head):
            first, second = _end(term, stands_for), _end(_inside(at, other), stands_for)
            if is_whole(first):
                first, second = second, first
            if first != second:
                if is_whole(first):
                    return None
                stands_for[first] = second
    return stands_for


def _end(term, stands_for):
    while term in stands_for:
        term = stands_for[term]
    return term


def _inside(at, term):
    """The term of an unfolded rule that replaces the place with this index: its variables are new ones."""
    return (at, term) if is_name(term) else term


def _parted(name, index, rule, choice):
    """For each place of the unfolded rule its source, its terms, whether it is filtered, and its spot."""
    parts = []
    for at, (place, option) in enumerate(zip(rule, choice)):
        if option is None:
            parts.append((place.source, place.terms, place.filtered, (name, index, at)))
        else:
            for inner, spot in zip(option[0], option[1]):
                terms = tuple([_inside(at, term) for term in inner.terms])
                parts.append((inner.source, terms, inner.filtered, spot))
    return parts


def _made(head, parts, stands_for):
    """The unfolded rule, its variables in the order in which they first stand, and the spots of its places."""
    names = {}
    for term in [*head, *[term for source, terms, filtered, spot in parts for term in terms]]:
        end = _end(term, stands_for)
        if not is_whole(end) and end not in names:
            names[end] = _LETTERS[len(names)]
    spots = tuple([spot for source, terms, filtered, spot in parts])
    places = [_made_place(source, _ends(terms, stands_for, names), filtered) for source, terms, filtered, spot in parts]
    return Rule(_ends(head, stands_for, names), *places), spots


def _made_place(source, terms, filtered):
    return Place(source, *terms, filtered=filtered)


def _ends(terms, stands_for, names):
    ends = [_end(term, stands_for) for term in terms]
    return tuple([names.get(end, end) for end in ends])
