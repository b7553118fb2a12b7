"""Sets of hand-overs, or counts of kinds, as cells: integers.

A cell tells how many of each kind are done, the first kind as its lowest digit; digit k goes from 0
to sizes[k]. For single hand-overs all sizes are 1, and a cell is the mask of a done set. So the cells
behind a cell have greater numbers. Some cells are told as bits: an integer with 1 at the place of each.
"""

from math import lcm

from lastgiver.ratios import Ratio


class Track:
    """What a stranger can have: all its amounts times one scale, so that they are integers."""

    def __init__(self, effects, net, trust, pledge):
        scale = 1
        for amount in [*effects, net, trust, pledge]:
            if amount is not None:
                scale = lcm(scale, amount.bottom)
        self.scale = scale
        self.effects = tuple([_times(effect, scale) for effect in effects])
        self.low = None if trust is None else -_times(trust, scale)
        self.high = None if pledge is None else _times(net, scale) + _times(pledge, scale)

    def total(self, numbers):
        """The sum behind these hand-overs."""
        return sum([self.effects[number] for number in numbers])

    def bears(self, total):
        """Whether neither bound is passed at this sum."""
        return (self.low is None or self.low <= total) and (self.high is None or total <= self.high)

    def drawn_by(self, total):
        """By how much it is drawn out at this sum; 0 if it is not."""
        return self._amount(0 if self.low is None else self.low - total)

    def leaves_by(self, total):
        """How much it would gain by leaving at this sum; 0 if nothing."""
        return self._amount(0 if self.high is None else total - self.high)

    def _amount(self, passed):
        """The Ratio of what a bound is passed by."""
        return Ratio(max(0, passed), self.scale)


def _times(ratio, scale):
    """A ratio times a scale that its bottom divides."""
    return ratio.top * (scale // ratio.bottom)


def tracks_of(swap, bounds):
    """The Tracks of all strangers of a swap with these bounds."""
    tracks = []
    for name, net, trust, pledge in zip(swap.strangers, swap.nets, bounds.trusts, bounds.pledges):
        effects = [hand.effect(name) for hand in swap.hands]
        tracks.append(Track(effects, net, trust, pledge))
    return tuple(tracks)


def mask_of(numbers):
    """The mask of a done set."""
    mask = 0
    for number in numbers:
        mask = mask | (1 << number)
    return mask


def numbers_in(mask, many):
    """The done set of a mask, of so many hand-overs."""
    return tuple([number for number in range(many) if mask >> number & 1])


def sets_in_order(many):
    """All done sets of so many hand-overs, those with fewer numbers first, then as tuples."""
    found = [()]
    layer = [()]
    for _ in range(many):
        layer = [(*done, number) for done in layer for number in range(_next_number(done), many)]
        found = found + layer
    return found


def _next_number(done):
    """The least number above all of an ascending tuple."""
    return done[-1] + 1 if done else 0


def strides_of(sizes):
    """For each kind how far the cell with one more of it is; and at last how many cells there are."""
    strides = [1]
    for size in sizes:
        strides.append(strides[-1] * (size + 1))
    return strides


def counts_in(cell, sizes):
    """The counts that a cell tells."""
    strides = strides_of(sizes)
    return tuple([cell // stride % (size + 1) for stride, size in zip(strides, sizes)])


def cells_in(bits):
    """The cells that the bits tell, ascending."""
    text = f"{bits:b}"
    found = []
    at = text.find("1")
    while at >= 0:
        found.append(len(text) - 1 - at)
        at = text.find("1", at + 1)
    return found[::-1]


def bits_of(cells):
    """The bits of some cells."""
    bits = 0
    for cell in cells:
        bits = bits | (1 << cell)
    return bits


def sets_in(bits, many):
    """The list of the done sets, of so many hand-overs, whose masks the bits tell, in their order."""
    half = many // 2
    low = _sets_among(list(range(half)))
    high = _sets_among(list(range(half, many)))
    found = [low[mask & (len(low) - 1)] + high[mask >> half] for mask in cells_in(bits)]
    ordered = sorted([(len(done), done) for done in found])
    return [pair[1] for pair in ordered]


def sums_among(first, changes):
    """The sums of a first number and of some of the changes, each at the place that is their mask."""
    found = [first]
    for change in changes:
        found = found + [total + change for total in found]
    return found


def counts_listed(bits, sizes):
    """The list of the counts that the bits tell, those of fewer ahead, then as tuples."""
    found = [counts_in(cell, sizes) for cell in cells_in(bits)]
    ordered = sorted([(sum(counts), counts) for counts in found])
    return [pair[1] for pair in ordered]


def _sets_among(numbers):
    """The ascending tuples of some of these numbers, each at the place that is its mask among them."""
    found = [()]
    for number in numbers:
        found = found + [(*done, number) for done in found]
    return found
