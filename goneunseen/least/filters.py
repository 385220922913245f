"""The fewest filters that make a program faithful at a view."""

from goneunseen.ask.programs import below, mendings_of, outlines_of
from goneunseen.ask.spots import Spots, spots_of
from goneunseen.errors import TooMany
from goneunseen.faith.faithful import paper_behind, paper_over
from goneunseen.faith.papers import Derived, Misleading, shows_faithful, shows_misled
from goneunseen.frozen.derivations import check_mode
from goneunseen.least.mending import Mending

_MOST_FREE = 8
_MOST_NEEDS = 100


def fewest(program, name, *, mode="answers"):
    """The fewest spots at which filters make the program faithful at the view."""
    mending = _mending_of(program, name, mode)
    return _as_spots(mending, _first_fewest(mending))


def least_paper(program, name, *, mode="answers"):
    """The fewest spots, a paper that shows that they mend, and needy sets that show that fewer ones do not."""
    mending = _mending_of(program, name, mode)
    mask = _first_fewest(mending)
    derived = paper_over(program, program.scheme, mending.outlines_with(mask), mode)
    everything = mending.everything()
    needs = []
    for needy in mending.needy():
        outline, rows = mending.misled_by(everything & ~needy)
        needs.append((_as_spots(mending, needy), paper_behind(program, program.scheme, outline, rows, mode)))
    return _as_spots(mending, mask), derived, tuple(needs)


def tight_sets(program, name, *, mode="answers"):
    """Yields all tight sets, ascending by the tuples of their spots."""
    mending = _mending_of(program, name, mode)
    for spots in sorted([mending.spots_in(mask) for mask in mending.tight()]):
        yield spots_of(spots)


def needy_sets(program, name, *, mode="answers"):
    """Yields all needy sets out of which no spot can be left, ascending by the tuples of their spots."""
    mending = _mending_of(program, name, mode)
    for spots in sorted([mending.spots_in(mask) for mask in mending.needy()]):
        yield spots_of(spots)


def is_mending(program, name, value, *, mode="answers"):
    """Whether the value is a set of free spots that mends."""
    mending, mask = _mending_and_mask(program, name, value, mode)
    return mask is not None and mending.mends(mask)


def is_tight(program, name, value, *, mode="answers"):
    """Whether the value is a tight set."""
    mending, mask = _mending_and_mask(program, name, value, mode)
    if mask is None or not mending.mends(mask):
        return False
    return not any([mending.mends(mask & ~mending.mask_of([spot])) for spot in value])


def is_fewest(program, name, value, *, mode="answers"):
    """Whether the value is a set that mends, while no smaller one does."""
    mending, mask = _mending_and_mask(program, name, value, mode)
    if mask is None or not mending.mends(mask):
        return False
    return len(value) == len(mending.spots_in(_first_fewest(mending)))


def is_needy(program, name, value, *, mode="answers"):
    """Whether the value is a set of free spots without which the others do not mend."""
    mending, mask = _mending_and_mask(program, name, value, mode)
    return mask is not None and not mending.mends(mending.everything() & ~mask)


def is_least_paper(program, name, value, *, mode="answers"):
    """Whether the value is a least paper."""
    mending = _mending_of(program, name, mode)
    if not isinstance(value, tuple) or len(value) != 3:
        return False
    spots, derived, needs = value
    mask = _mask_of_value(mending, spots)
    if mask is None or not isinstance(derived, Derived) or derived.mode != mode:
        return False
    if not shows_faithful(derived, program.scheme, mending.outlines_with(mask)):
        return False
    if not isinstance(needs, tuple) or len(needs) > _MOST_NEEDS:
        return False
    if not all([_is_need(program.scheme, mending, pair, mode) for pair in needs]):
        return False
    return _needs_as_many(mending, len(spots), [mending.mask_of(needy) for needy, _ in needs])


def _mending_of(program, name, mode):
    outlines = outlines_of(program, name)
    check_mode(mode)
    known = mendings_of(program)
    if (name, mode) not in known:
        free = below(program, name) & program.free
        if len(free) > _MOST_FREE:
            raise TooMany(_MOST_FREE)
        known[name, mode] = Mending(program.scheme, outlines, free.listed, mode)
    return known[name, mode]


def _mending_and_mask(program, name, value, mode):
    mending = _mending_of(program, name, mode)
    return mending, _mask_of_value(mending, value)


def _mask_of_value(mending, value):
    """The integer of the value if it is a set of free spots, otherwise None."""
    free = mending.spots_in(mending.everything())
    if not isinstance(value, Spots) or not all([spot in free for spot in value]):
        return None
    return mending.mask_of(value)


def _as_spots(mending, mask):
    return spots_of(mending.spots_in(mask))


def _first_fewest(mending):
    """The integer of a fewest set."""
    return min(mending.tight(), key=lambda mask: len(mending.spots_in(mask)))


def _is_need(scheme, mending, pair, mode):
    """Whether the value is a pair of a needy set and a paper that shows that it is one."""
    if not isinstance(pair, tuple) or len(pair) != 2:
        return False
    mask = _mask_of_value(mending, pair[0])
    if mask is None or not isinstance(pair[1], Misleading) or pair[1].mode != mode:
        return False
    return shows_misled(pair[1], scheme, mending.outlines_with(mending.everything() & ~mask))


def _needs_as_many(mending, many, needs):
    """Whether each set of fewer free spots than so many misses one of the needy sets."""
    masks = [0]
    for spot in mending.spots_in(mending.everything()):
        bit = mending.mask_of([spot])
        masks = [*masks, *[mask | bit for mask in masks if len(mending.spots_in(mask)) + 1 < many]]
    if many == 0:
        return True
    return all([any([mask & needy == 0 for needy in needs]) for mask in masks])
