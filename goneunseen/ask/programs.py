"""Programs: views over the tables of a scheme and over earlier views."""

from goneunseen.ask.arguments import check_base
from goneunseen.ask.rules import Rule, rule_of
from goneunseen.ask.sound import Sound
from goneunseen.ask.spots import Spots, spots_of
from goneunseen.ask.told import told_answers
from goneunseen.ask.unfolding import marked_outlines, outlined_views, sketched_views
from goneunseen.errors import InvalidOperation, InvalidProgram, InvalidScheme, UnknownName
from goneunseen.scheme.names import is_name
from goneunseen.scheme.schemes import Scheme, have_same_tables

_MOST_VIEWS = 4
_MOST_RULES = 3


class Named:
    """The views of a program under any names: `self` and `scheme` cannot be passed by keyword."""

    def __init__(self, views):
        self.views = views


class Program:
    """A scheme and one to four views; a program never changes."""

    def __init__(self, scheme, **views):
        if not isinstance(scheme, Scheme):
            raise InvalidScheme("a program needs a scheme")
        given = views.get("of")
        self._scheme = scheme
        if isinstance(given, Sound):
            # They come from another program, whose tables are as wide.
            self._views, self._sketches, self._outlines = given.worth
        else:
            self._views = _checked_views(scheme, given.views if isinstance(given, Named) else views)
            self._sketches = sketched_views(self._views)
            # The outlines of all views, and the unfolded rules of a view, are made when they are asked for first.
            self._outlines = {}
        self._unfolded = {}
        self._mendings = {}

    @classmethod
    def of(cls, scheme, views):
        """The program with a dict of views."""
        return cls(scheme, of=Named(views))

    @property
    def scheme(self):
        """The scheme."""
        return self._scheme

    @property
    def names(self):
        """The names of the views, in their order."""
        return tuple(self._views)

    @property
    def places(self):
        """The spots of all places of tables."""
        return spots_of([spot for spot, _ in _table_places(self._views, self._views)])

    @property
    def free(self):
        """The spots of all free places of tables."""
        return spots_of([spot for spot, place in _table_places(self._views, self._views) if not place.filtered])

    def under(self, scheme):
        """The same program with another scheme."""
        if not isinstance(scheme, Scheme):
            raise InvalidScheme("no scheme")
        if not have_same_tables(self._scheme, scheme):
            raise InvalidOperation("the scheme has other tables")
        return Program(scheme, of=Sound((self._views, self._sketches, self._outlines)))

    def __call__(self, base):
        check_base(self._scheme, base)
        return {name: told_answers(outlines_of(self, name), base, False) for name in self._views}

    def __add__(self, other):
        return _marked_program(self, other, True)

    def __sub__(self, other):
        return _marked_program(self, other, False)

    def __iter__(self):
        raise TypeError("a program cannot be iterated over")

    def __getitem__(self, at):
        if at not in self:
            raise UnknownName(at)
        return self._views[at]

    def __contains__(self, value):
        return is_name(value) and value in self._views

    def __eq__(self, other):
        return (
            isinstance(other, Program)
            and self._scheme == other._scheme
            and self.names == other.names
            and self._views == other._views
        )


def unfolded(program, name):
    """The unfolded rules of a view."""
    outlines = outlines_of(program, name)
    if name not in program._unfolded:
        program._unfolded[name] = tuple([rule_of(head, triples) for head, triples, _ in outlines])
    return program._unfolded[name]


def origins(program, name):
    """For each unfolded rule of a view the spots from which its places come."""
    return tuple([spots for _, _, spots in outlines_of(program, name)])


def outlines_of(program, name):
    """For each unfolded rule of a view the head, the triples of the places, and the spots from which they come."""
    _check_view(program, name)
    if not program._outlines:
        program._outlines.update(outlined_views(program._views, program._sketches))
    return tuple(program._outlines[name])


def mendings_of(program):
    """The dict of what was found out about filters at the views of a program, as it is kept: to be added to."""
    return program._mendings


def below(program, name):
    """The spots of all places of tables in a view and in the views that it uses, also through others."""
    _check_view(program, name)
    used = {name: True}
    # A view uses only earlier ones, so all that use one have been seen before it.
    for view in reversed(list(program._views)):
        if view in used:
            for rule in program._views[view]:
                used.update({place.source: True for place in rule})
    return spots_of([spot for spot, _ in _table_places(program._views, used)])


def _check_view(program, name):
    if not isinstance(program, Program):
        raise InvalidProgram("no program")
    if name not in program:
        raise UnknownName(name)


def _checked_views(scheme, views):
    """A dict from the names of the views to tuples of their rules."""
    if not isinstance(views, dict) or not 1 <= len(views) <= _MOST_VIEWS:
        raise InvalidProgram("a program has one to four views")
    checked = {}
    for name in views:
        if not is_name(name) or name in scheme:
            raise InvalidProgram("a view needs a name, and not that of a table")
        rules = views[name] if isinstance(views[name], tuple) else (views[name],)
        if not 1 <= len(rules) <= _MOST_RULES:
            raise InvalidProgram("a view is one to three rules")
        for rule in rules:
            _check_rule(scheme, checked, rule)
        if len(set([len(rule.head) for rule in rules])) > 1:
            raise InvalidProgram("the heads of a view have one length")
        checked[name] = rules
    return checked


def _check_rule(scheme, earlier, rule):
    if not isinstance(rule, Rule) or rule.parts:
        raise InvalidProgram("a view is made of rules without parts")
    for place in rule:
        if not _can_stand(scheme, earlier, place):
            raise InvalidProgram("a place has no such source, or cannot stand there")


def _can_stand(scheme, earlier, place):
    if place.source in scheme:
        return len(place) == scheme[place.source].width
    if place.source not in earlier or place.filtered:
        return False
    return len(place) == len(earlier[place.source][0].head)


def _table_places(views, names):
    """The places of tables in those of the views that have these names, as pairs with their spots."""
    return [
        ((name, index, at), place) for name in views if name in names for index, rule in enumerate(views[name])
        for at, place in enumerate(rule) if place.source not in views]


def _marked_program(program, spots, filtered):
    """The program in which the places at these spots are filtered or free."""
    views = program._views
    if not isinstance(spots, Spots) or not all([_is_table_spot(views, spot) for spot in spots]):
        raise InvalidOperation("no spots of places of tables")
    wanted = {spot: True for spot in spots}
    touched = {(name, index): True for name, index, _ in spots}
    marked = {
        name: tuple([
            _marked_rule(name, index, rule, wanted, filtered) if (name, index) in touched else rule
            for index, rule in enumerate(views[name])])
        for name in views}
    outlines = marked_outlines(program._outlines, wanted, filtered)
    return Program(program._scheme, of=Sound((marked, program._sketches, outlines)))


def _is_table_spot(views, spot):
    name, index, at = spot
    if name not in views or index >= len(views[name]) or at >= len(views[name][index]):
        return False
    return views[name][index][at].source not in views


def _marked_rule(name, index, rule, spots, filtered):
    places = [_marked(place, filtered) if (name, index, at) in spots else place for at, place in enumerate(rule)]
    head, mark = rule.head, Sound(())
    return Rule(head, *places, without=mark)


def _marked(place, filtered):
    return +place if filtered else -place
