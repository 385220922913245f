"""Which filters mend a view: sets of free spots are told by integers here, with a bit for each spot."""

from goneunseen.frozen.chase import chased
from goneunseen.frozen.derivations import right_ending


class Mending:
    """The free spots of a view, and what filters at them do to its unfolded rules."""

    def __init__(self, scheme, outlines, free, mode):
        self._scheme = scheme
        self._outlines = outlines
        self._free = free
        self._mode = mode
        self._bits = {spot: 1 << at for at, spot in enumerate(free)}
        # For each rule the bits of its places, 0 where one is filtered, and these together: filters at the spots of
        # other rules do nothing to it.
        self._places = [[self._bits.get(spot, 0) for spot in origins] for _, _, origins in outlines]
        self._own = [_together(bits) for bits in self._places]
        # What was found out before: a mending never changes otherwise.
        self._are_right = {}
        self._needy = None
        self._tight = None

    def is_under(self, scheme):
        """Whether it is about an equal scheme."""
        return self._scheme == scheme

    def everything(self):
        """The integer of all free spots."""
        return (1 << len(self._free)) - 1

    def mask_of(self, spots):
        """The integer of some of the free spots."""
        return _together([self._bits[spot] for spot in spots])

    def spots_in(self, mask):
        """The tuple of the spots of an integer, ascending."""
        return tuple([spot for spot in self._free if self._bits[spot] & mask])

    def outlines_with(self, mask):
        """The unfolded rules with filters at these spots."""
        return [self._outline_with(index, mask) for index in range(len(self._outlines))]

    def misled_by(self, mask):
        """The outline and the rows of an unfolded rule that has no right derivation with these filters, or None."""
        for index in range(len(self._outlines)):
            if not self._is_right(index, mask):
                outline = self._outline_with(index, mask)
                rows, _ = chased(self._scheme, outline[1])
                return outline, rows
        return None

    def mends(self, mask):
        """Whether filters at these spots make the program faithful at the view."""
        for index in range(len(self._outlines)):
            if not self._is_right(index, mask):
                return False
        return True

    def needy(self):
        """The list of the needy sets out of which no spot can be left."""
        if self._needy is None:
            self._needy = _least([mask for index in range(len(self._outlines)) for mask in self._needy_of(index)])
        return list(self._needy)

    def tight(self):
        """The list of the tight sets: those with a spot of each needy set from which none can be left out."""
        if self._tight is None:
            found = [0]
            for needy in self.needy():
                there = [mask for mask in found if mask & needy]
                added = [mask | bit for mask in found if not mask & needy for bit in _bits_of(needy)]
                found = _least([*there, *added])
            self._tight = found
        return list(self._tight)

    def some_tight(self):
        """A tight set. It takes fewer questions than all of them."""
        if self._needy is not None:
            return self.tight()[0]
        everything = self.everything()
        mask = everything
        for bit in _bits_of(everything):
            if self.mends(mask & ~bit):
                mask = mask & ~bit
        return mask

    def _triples_with(self, index, mask):
        """The triples of an unfolded rule with filters at these spots."""
        triples, bits = self._outlines[index][1], self._places[index]
        return [(source, terms, filtered or bit & mask > 0) for (source, terms, filtered), bit in zip(triples, bits)]

    def _outline_with(self, index, mask):
        head, _, origins = self._outlines[index]
        return head, tuple(self._triples_with(index, mask)), origins

    def _is_right(self, index, mask):
        """Whether an unfolded rule has a right derivation."""
        own = mask & self._own[index]
        if own == self._own[index]:
            # All its places are living, whatever its steps are, unless it is empty.
            return True
        if (index, own) not in self._are_right:
            rows, _ = chased(self._scheme, self._triples_with(index, own))
            self._are_right[index, own] = right_ending(self._outlines, index, rows, self._mode) is not None
        return self._are_right[index, own]

    def _needy_of(self, index):
        """The needy sets that an unfolded rule has, among which are all those out of which no spot can be left."""
        own, found = self._own[index], []
        undecided = _masks_within(own)
        while undecided:
            mask = undecided[0]
            if self._is_right(index, mask):
                undecided = [other for other in undecided if other & mask != mask]
            else:
                greatest = self._greatest_wrong(index, mask, own)
                found.append(own & ~greatest)
                undecided = [other for other in undecided if other & ~greatest]
        return found

    def _greatest_wrong(self, index, mask, own):
        """A set with these spots that does not make the rule right, while each greater one does."""
        for bit in _bits_of(own & ~mask):
            if not self._is_right(index, mask | bit):
                mask |= bit
        return mask


def _together(masks):
    """What is in any of the masks."""
    everything = 0
    for mask in masks:
        everything |= mask
    return everything


def _bits_of(mask):
    found = []
    bit = 1
    while bit <= mask:
        if mask & bit:
            found.append(bit)
        bit = bit << 1
    return found


def _masks_within(own):
    """All sets within this one, smaller ones ahead of those that have all their spots."""
    masks = [0]
    for bit in _bits_of(own):
        masks = [*masks, *[mask | bit for mask in masks]]
    return masks


def _least(masks):
    """Those of the masks that have all spots of no other one, each once."""
    different = sorted(set(masks))
    return [mask for mask in different if not any([other & mask == other and other != mask for other in different])]
