"""Classes of places: each tight set of a rule without filters has one place of each."""

from goneunseen.ask.arguments import check_table_rule
from goneunseen.ask.rules import outline_of, worked_out
from goneunseen.errors import InvalidOperation
from goneunseen.frozen.chase import as_living, chased
from goneunseen.frozen.derivations import check_mode
from goneunseen.least.mending import Mending
from goneunseen.scheme.names import is_whole


def classes(scheme, rule, *, mode="answers"):
    """Classes of a rule."""
    mending = _mending_places(scheme, rule, mode)
    needy = mending.needy()
    found = _apart(needy, _how_many_classes(mending))
    return tuple(sorted([mending.spots_in(mask) for mask in found]))


def is_classes(scheme, rule, value, *, mode="answers"):
    """Whether the value is classes of a rule."""
    mending = _mending_places(scheme, rule, mode)
    if not isinstance(value, tuple) or not all([_are_indices(indices, len(rule)) for indices in value]):
        return False
    together = [index for indices in value for index in indices]
    if not _is_rising(value) or len(set(together)) < len(together) or len(value) != _how_many_classes(mending):
        return False
    everything = mending.everything()
    return not any([mending.mends(everything & ~mending.mask_of(indices)) for indices in value])


def _mending_places(scheme, rule, mode):
    """What filters at the places of a rule do to it; the spots are the indices of the places."""
    check_table_rule(scheme, rule)
    check_mode(mode)
    known = worked_out(rule)
    if mode not in known or not known[mode].is_under(scheme):
        known[mode] = _new_mending(scheme, rule, mode)
    return known[mode]


def _new_mending(scheme, rule, mode):
    head, triples = outline_of(rule)
    if any([filtered for _, _, filtered in triples]):
        raise InvalidOperation("the rule has filters")
    if mode == "answers" and any([table.key is not None and table.scope == "living" for table in scheme]):
        raise InvalidOperation("a key has the scope living")
    rows, _ = chased(scheme, as_living(triples))
    if rows.is_empty():
        raise InvalidOperation("the rule never matches")
    indices = tuple(range(len(triples)))
    return Mending(scheme, [(head, triples, indices)], indices, mode)


def _how_many_classes(mending):
    """How many spots a tight set has: all of them have equally many."""
    return len(mending.spots_in(mending.some_tight()))


def _apart(needy, many):
    """So many of the needy sets that have no spot in common, or None."""
    if many == 0:
        return []
    for at, mask in enumerate(needy):
        others = [other for other in needy[at + 1:] if not mask & other]
        found = _apart(others, many - 1)
        if found is not None:
            return [mask, *found]
    return None


def _are_indices(value, many):
    """Whether the value is an ascending tuple of indices of places."""
    if not isinstance(value, tuple) or not all([is_whole(index) and 0 <= index < many for index in value]):
        return False
    return _is_rising(value)


def _is_rising(values):
    return all([first < second for first, second in zip(values, values[1:])])
