"""Programs: views over the tables of a scheme and over earlier views."""

from goneunseen.ask.arguments import check_base
from goneunseen.ask.rules import Rule
from goneunseen.ask.spots import Spots
from goneunseen.ask.told import told_answers
from goneunseen.ask.unfolding import unfolded_views
from goneunseen.errors import InvalidOperation, InvalidProgram, InvalidScheme, UnknownName
from goneunseen.scheme.names import is_name
from goneunseen.scheme.schemes import Scheme, have_same_tables

_MOST_VIEWS = 4
_MOST_RULES = 3


class Named:
    """The views of a program under any names: `self` and `scheme` cannot be passed by keyword."""

    def __init__(self, views):
        self.views = views


class Program:
    """A scheme and one to four views; a program never changes."""

    def __init__(self, scheme, **views):
        if not isinstance(scheme, Scheme):
            raise InvalidScheme("a program needs a scheme")
        self._scheme = scheme
        self._views = _checked_views(scheme, _passed_views(views))
        self._unfolded = unfolded_views(self._views)

    @classmethod
    def of(cls, scheme, views):
        """The program with a dict of views."""
        return cls(scheme, of=Named(views))

    @property
    def scheme(self):
        """The scheme."""
        return self._scheme

    @property
    def names(self):
        """The names of the views, in their order."""
        return tuple(self._views)

    @property
    def places(self):
        """The spots of all places of tables."""
        return _spots_in(self._scheme, self._views, self._views)

    @property
    def free(self):
        """The spots of all free places of tables."""
        spots = [spot for spot in self.places if not _place_at(self._views, spot).filtered]
        return Spots(*spots)

    def under(self, scheme):
        """The same program with another scheme."""
        if not isinstance(scheme, Scheme):
            raise InvalidScheme("no scheme")
        if not have_same_tables(self._scheme, scheme):
            raise InvalidOperation("the scheme has other tables")
        return Program.of(scheme, self._views)

    def __call__(self, base):
        check_base(self._scheme, base)
        return {name: told_answers(unfolded(self, name), base, False) for name in self._views}

    def __add__(self, other):
        _check_spots_of(self, other)
        return Program(self._scheme, of=Named(_marked_views(self._views, other, True)))

    def __sub__(self, other):
        _check_spots_of(self, other)
        return Program(self._scheme, of=Named(_marked_views(self._views, other, False)))

    def __iter__(self):
        raise TypeError("a program cannot be iterated over")

    def __getitem__(self, at):
        if at not in self:
            raise UnknownName(at)
        return self._views[at]

    def __contains__(self, value):
        return is_name(value) and value in self._views

    def __eq__(self, other):
        return (
            isinstance(other, Program)
            and self._scheme == other._scheme
            and self.names == other.names
            and self._views == other._views
        )


def unfolded(program, name):
    """The unfolded rules of a view."""
    _check_view(program, name)
    return tuple([rule for rule, spots in program._unfolded[name]])


def origins(program, name):
    """For each unfolded rule of a view the spots from which its places come."""
    _check_view(program, name)
    return tuple([spots for rule, spots in program._unfolded[name]])


def below(program, name):
    """The spots of all places of tables in a view and in the views that it uses, also through others."""
    _check_view(program, name)
    used = {name: True}
    # A view uses only earlier ones, so all that use one have been seen before it.
    for view in reversed(list(program.names)):
        if view in used:
            for source in [place.source for rule in program[view] for place in rule]:
                used[source] = True
    return _spots_in(program.scheme, program._views, used)


def _check_view(program, name):
    if not isinstance(program, Program):
        raise InvalidProgram("no program")
    if name not in program:
        raise UnknownName(name)


def _check_spots_of(program, value):
    if not isinstance(value, Spots) or not value.within(program.places):
        raise InvalidOperation("no spots of places of tables")


def _passed_views(views):
    given = views.get("of")
    return given.views if isinstance(given, Named) else views


def _checked_views(scheme, views):
    """A dict from the names of the views to tuples of their rules."""
    if not isinstance(views, dict) or not 1 <= len(views) <= _MOST_VIEWS:
        raise InvalidProgram("a program has one to four views")
    checked = {}
    for name in views:
        if not is_name(name) or name in scheme:
            raise InvalidProgram("a view needs a name, and not that of a table")
        rules = views[name] if isinstance(views[name], tuple) else (views[name],)
        if not 1 <= len(rules) <= _MOST_RULES:
            raise InvalidProgram("a view is one to three rules")
        for rule in rules:
            _check_rule(scheme, checked, rule)
        if len(set([len(rule.head) for rule in rules])) > 1:
            raise InvalidProgram("the heads of a view have one length")
        checked[name] = rules
    return checked


def _check_rule(scheme, earlier, rule):
    if not isinstance(rule, Rule) or rule.parts:
        raise InvalidProgram("a view is made of rules without parts")
    for place in rule:
        if not _can_stand(scheme, earlier, place):
            raise InvalidProgram("a place has no such source, or cannot stand there")


def _can_stand(scheme, earlier, place):
    if place.source in scheme:
        return len(place) == scheme[place.source].width
    if place.source not in earlier or place.filtered:
        return False
    return len(place) == len(earlier[place.source][0].head)


def _spots_in(scheme, views, names):
    """The spots of all places of tables in those of the views that have these names."""
    spots = [
        (name, index, at) for name in views if name in names for index, rule in enumerate(views[name])
        for at, place in enumerate(rule) if place.source in scheme]
    return Spots(*spots)


def _place_at(views, spot):
    name, index, at = spot
    return views[name][index][at]


def _marked_views(views, spots, filtered):
    return {name: _marked_rules(name, views[name], spots, filtered) for name in views}


def _marked_rules(name, rules, spots, filtered):
    return tuple([_marked_rule(name, index, rule, spots, filtered) for index, rule in enumerate(rules)])


def _marked_rule(name, index, rule, spots, filtered):
    places = [_marked(place, filtered) if (name, index, at) in spots else place for at, place in enumerate(rule)]
    return Rule(rule.head, *places)


def _marked(place, filtered):
    return +place if filtered else -place
