"""Which filters mend a view: sets of free spots are told by integers here, with a bit for each spot."""

from goneunseen.ask.unfolding import marked_outline
from goneunseen.frozen.chase import chased
from goneunseen.frozen.derivations import right_ending


class Mending:
    """The free spots of a view, and what filters at them do to its unfolded rules."""

    def __init__(self, scheme, outlines, free, mode):
        self._scheme = scheme
        self._outlines = outlines
        self._free = free
        self._mode = mode
        self._bits = {spot: 1 << at for at, spot in enumerate(free)}
        # What hangs on a spot of other rules alone is not asked again: for each rule the bits of its own spots.
        self._own = [self.mask_of([spot for spot in origins if spot in self._bits]) for _, _, origins in outlines]
        self._known = {}

    def everything(self):
        """The integer of all free spots."""
        return (1 << len(self._free)) - 1

    def mask_of(self, spots):
        """The integer of some of the free spots."""
        mask = 0
        for spot in spots:
            mask |= self._bits[spot]
        return mask

    def spots_in(self, mask):
        """The tuple of the spots of an integer, ascending."""
        return tuple([spot for spot in self._free if self._bits[spot] & mask])

    def outlines_with(self, mask):
        """The unfolded rules with filters at these spots."""
        return [self._outline_with(index, mask) for index in range(len(self._outlines))]

    def misled_by(self, mask):
        """The outline and the rows of an unfolded rule that has no right derivation with these filters, or None."""
        for index in range(len(self._outlines)):
            if not self._is_right(index, mask):
                outline = self._outline_with(index, mask)
                rows, _ = chased(self._scheme, outline[1])
                return outline, rows
        return None

    def mends(self, mask):
        """Whether filters at these spots make the program faithful at the view."""
        for index in range(len(self._outlines)):
            if not self._is_right(index, mask):
                return False
        return True

    def needy(self):
        """The needy sets out of which no spot can be left."""
        found = []
        for index in range(len(self._outlines)):
            found.extend(self._needy_of(index))
        return _least(found)

    def tight(self):
        """The tight sets: those with a spot of each needy set from which none can be left out."""
        found = [0]
        for needy in self.needy():
            longer = [mask for mask in found if mask & needy]
            longer.extend([mask | bit for mask in found if not mask & needy for bit in _bits_of(needy)])
            found = _least(longer)
        return found

    def _outline_with(self, index, mask):
        spots = {spot: True for spot in self.spots_in(mask)}
        return marked_outline(self._outlines[index], spots, True)

    def _is_right(self, index, mask):
        """Whether an unfolded rule has a right derivation; filters at the spots of other rules do nothing to it."""
        mark = (index, mask & self._own[index])
        if mark not in self._known:
            rows, _ = chased(self._scheme, self._outline_with(index, mask)[1])
            self._known[mark] = right_ending(self._outlines, index, rows, self._mode) is not None
        return self._known[mark]

    def _needy_of(self, index):
        """The needy sets that an unfolded rule has, among which are all those out of which no spot can be left."""
        own = self._own[index]
        wrong, right, found = [], [], []
        for mask in _masks_within(own):
            is_wrong = any([mask | other == other for other in wrong])
            if not is_wrong and not any([mask & other == other for other in right]):
                if self._is_right(index, mask):
                    right.append(mask)
                else:
                    greatest = self._greatest_wrong(index, mask, own)
                    wrong.append(greatest)
                    found.append(own & ~greatest)
        return found

    def _greatest_wrong(self, index, mask, own):
        """A set with these spots that does not make the rule right, while each greater one does."""
        for bit in _bits_of(own & ~mask):
            if not self._is_right(index, mask | bit):
                mask |= bit
        return mask


def _bits_of(mask):
    found = []
    bit = 1
    while bit <= mask:
        if mask & bit:
            found.append(bit)
        bit = bit << 1
    return found


def _masks_within(own):
    """All sets within this one, smaller ones ahead of those that have all their spots."""
    masks = [0]
    for bit in _bits_of(own):
        masks = [*masks, *[mask | bit for mask in masks]]
    return masks


def _least(masks):
    """Those of the masks that have all spots of no other one, each once."""
    different = sorted(set(masks))
    return [mask for mask in different if not any([other & mask == other and other != mask for other in different])]
