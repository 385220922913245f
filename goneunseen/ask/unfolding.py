"""Unfolding: rules over views become rules over tables.

First the unfolded rules of all views are sketched, without their places: this tells how many there are. Their outlines
are made from the sketches when they are asked for: the head, the triples of the places, and the spots of the places.
"""

from goneunseen.ask.rules import outline_of
from goneunseen.errors import TooMany

_LETTERS = "abcdefghijklmnopqrstuvwxyz"
_MOST_CHOICES = 12
_MOST_PLACES = 6


class Sketch:
    """An unfolded rule of a view, without its places."""

    def __init__(self, index, choice, equal, head, many):
        self.rule_index = index
        # For each place of the rule the view and the number of the unfolded rule that replaces it, or None.
        self.choice = choice
        # For each such place a dict from the terms of the head that replaces it to terms of the rule; the last dict is
        # from terms of the rule to equal ones that stand for them.
        self.equal = equal
        self.new_head = head
        self.how_many_places = many


def sketched_views(views):
    """For each view the list of the sketches of its unfolded rules."""
    told = {}
    for name in views:
        told[name] = _sketched_view(views[name], told)
    return told


def outlined_views(views, sketches):
    """For each view the list of the outlines of its unfolded rules."""
    told = {}
    for name in views:
        rules = [outline_of(rule) for rule in views[name]]
        told[name] = [_outlined(name, rules[sketch.rule_index], sketch, told) for sketch in sketches[name]]
    return told


def marked_outlines(told, spots, filtered):
    """The outlines of all views with the places at the spots, keys of a dict, filtered or free."""
    return {name: [marked_outline(outline, spots, filtered) for outline in told[name]] for name in told}


def marked_outline(outline, spots, filtered):
    """The outline with the places at the spots, keys of a dict, filtered or free."""
    head, triples, origins = outline
    if not any([spot in spots for spot in origins]):
        return outline
    marked = [
        (source, terms, filtered if spot in spots else before)
        for (source, terms, before), spot in zip(triples, origins)]
    return head, tuple(marked), origins


def _sketched_view(rules, earlier):
    outlines = [outline_of(rule) for rule in rules]
    if sum([_how_many_choices(triples, earlier) for _, triples in outlines]) > _MOST_CHOICES:
        raise TooMany(_MOST_CHOICES)
    sketches = []
    for index, (head, triples) in enumerate(outlines):
        for choice in _choices(triples, earlier):
            equal = _equated(triples, choice, earlier)
            if equal is not None:
                many = sum([1 if at is None else earlier[at[0]][at[1]].how_many_places for at in choice])
                sketches.append(Sketch(index, choice, equal, _lettered(head, equal[-1]), many))
    # A rule with more places cannot be.
    if any([sketch.how_many_places > _MOST_PLACES for sketch in sketches]):
        raise TooMany(_MOST_PLACES)
    return sketches


def _how_many_choices(triples, earlier):
    many = 1
    for source, _, _ in triples:
        if source in earlier:
            many = many * len(earlier[source])
    return many


def _choices(triples, earlier):
    """For each place what replaces it, the first place outermost."""
    choices = [[]]
    for source, _, _ in triples:
        if source in earlier:
            options = [(source, number) for number in range(len(earlier[source]))]
            choices = [[*choice, option] for choice in choices for option in options]
        else:
            choices = [[*choice, None] for choice in choices]
    return choices


def _equated(triples, choice, earlier):
    """What is equal in an unfolded rule, as a sketch keeps it, or None if two different integers are equated."""
    found = []
    stands_for = {}
    for (_, terms, _), option in zip(triples, choice):
        known = {}
        head = () if option is None else earlier[option[0]][option[1]].new_head
        for inner, term in zip(head, terms):
            other = inner if isinstance(inner, int) else known.setdefault(inner, term)
            if other != term:
                first, second = _end_of_chain(term, stands_for), _end_of_chain(other, stands_for)
                if isinstance(first, int):
                    first, second = second, first
                if first != second:
                    if isinstance(first, int):
                        return None
                    stands_for[first] = second
        found.append(known)
    if stands_for:
        found = [{inner: _end_of_chain(equal[inner], stands_for) for inner in equal} for equal in found]
    return [*found, {term: _end_of_chain(term, stands_for) for term in stands_for}]


def _end_of_chain(term, stands_for):
    while term in stands_for:
        term = stands_for[term]
    return term


def _lettered(head, ends):
    """The head of an unfolded rule: its variables come first among those that are renamed."""
    names = {}
    found = []
    for term in head:
        end = ends.get(term, term)
        if isinstance(end, str) and end not in names:
            names[end] = _LETTERS[len(names)]
        found.append(names.get(end, end))
    return tuple(found)


def _outlined(name, outline, sketch, told):
    """The outline of an unfolded rule, its variables in the order in which they stand in the head and the places."""
    ends, spots, found = sketch.equal[-1], [], []
    pairs = list(zip(outline[0], sketch.new_head))
    names = {ends.get(term, term): letter for term, letter in pairs if isinstance(letter, str)}
    many = len(names)
    for at, option in enumerate(sketch.choice):
        _, triples, origins = _replacing(name, outline, sketch, at, told)
        inside = {}
        for source, terms, filtered in triples:
            for term in terms:
                if term not in inside:
                    # The other variables of what replaces a place are new ones there.
                    end = ends.get(term, term) if option is None else sketch.equal[at].get(term, (at, term))
                    if isinstance(term, int) or isinstance(end, int):
                        inside[term] = term if isinstance(term, int) else end
                    else:
                        if end not in names:
                            names[end] = _LETTERS[many]
                            many += 1
                        inside[term] = names[end]
            found.append((source, tuple([inside[term] for term in terms]), filtered))
        spots.extend(origins)
    return sketch.new_head, tuple(found), tuple(spots)


def _replacing(name, outline, sketch, at, told):
    """The outline that replaces a place; a place of a table stays what it is."""
    if sketch.choice[at] is None:
        return (), (outline[1][at],), ((name, sketch.rule_index, at),)
    source, number = sketch.choice[at]
    return told[source][number]
