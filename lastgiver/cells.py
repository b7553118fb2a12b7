"""Sets of hand-overs, or counts of kinds, as cells: integers, in lists with one item for each cell.

A cell tells how many of each kind are done, the first kind as its lowest digit; digit k goes from 0
to sizes[k]. For single hand-overs all sizes are 1, and a cell is the mask of a done set. So the cells
behind a cell have greater numbers, and one pass up or down a list sees all that it hangs on.
"""

from math import lcm

from lastgiver.ratios import Ratio


class Track:
    """What a stranger can have: all its amounts times one scale, so that they are integers."""

    def __init__(self, effects, net, trust, pledge):
        scale = 1
        for amount in [*effects, net, trust, pledge]:
            if amount is not None:
                scale = lcm(scale, amount.bottom)
        self.scale = scale
        self.effects = tuple([_times(effect, scale) for effect in effects])
        self.low = None if trust is None else -_times(trust, scale)
        self.high = None if pledge is None else _times(net, scale) + _times(pledge, scale)

    def total(self, numbers):
        """The sum behind these hand-overs."""
        return sum([self.effects[number] for number in numbers])

    def bears(self, total):
        """Whether neither bound is passed at this sum."""
        return (self.low is None or self.low <= total) and (self.high is None or total <= self.high)

    def drawn_by(self, total):
        """By how much it is drawn out at this sum; 0 if it is not."""
        return self._amount(0 if self.low is None else self.low - total)

    def leaves_by(self, total):
        """How much it would gain by leaving at this sum; 0 if nothing."""
        return self._amount(0 if self.high is None else total - self.high)

    def _amount(self, passed):
        """The Ratio of what a bound is passed by."""
        return Ratio(max(0, passed), self.scale)


def _times(ratio, scale):
    """A ratio times a scale that its bottom divides."""
    return ratio.top * (scale // ratio.bottom)


def tracks_of(swap, bounds):
    """The Tracks of all strangers of a swap with these bounds."""
    tracks = []
    for name, net, trust, pledge in zip(swap.strangers, swap.nets, bounds.trusts, bounds.pledges):
        effects = [hand.effect(name) for hand in swap.hands]
        tracks.append(Track(effects, net, trust, pledge))
    return tuple(tracks)


def mask_of(numbers):
    """The mask of a done set."""
    mask = 0
    for number in numbers:
        mask = mask | (1 << number)
    return mask


def numbers_in(mask, many):
    """The done set of a mask, of so many hand-overs."""
    return tuple([number for number in range(many) if mask >> number & 1])


def sets_in_order(many):
    """All done sets of so many hand-overs, those with fewer numbers first, then as tuples."""
    found = [()]
    layer = [()]
    for _ in range(many):
        layer = [(*done, number) for done in layer for number in range(_next_number(done), many)]
        found = found + layer
    return found


def _next_number(done):
    """The least number above all of an ascending tuple."""
    return done[-1] + 1 if done else 0


def strides_of(sizes):
    """For each kind how far the cell with one more of it is; and at last how many cells there are."""
    strides = [1]
    for size in sizes:
        strides.append(strides[-1] * (size + 1))
    return strides


def counts_in(cell, sizes):
    """The counts that a cell tells."""
    strides = strides_of(sizes)
    return tuple([cell // stride % (size + 1) for stride, size in zip(strides, sizes)])


def bearable(tracks, numbers, sizes):
    """For each cell whether all strangers bear its sums; each kind counts as hand-over numbers[k]."""
    fit = [True] * strides_of(sizes)[-1]
    for track in tracks:
        totals = [0]
        for number, size in zip(numbers, sizes):
            effect = track.effects[number]
            totals = [total + effect * count for count in range(size + 1) for total in totals]
        fit = [so_far and track.bears(total) for so_far, total in zip(fit, totals)]
    return fit


def reached_cells(fit, sizes):
    """For each cell whether steps of one more, over cells that fit, lead to it from cell 0."""
    steps = list(zip(strides_of(sizes), sizes))
    found = []
    for cell, fits in enumerate(fit):
        behind = [stride for stride, size in steps if cell // stride % (size + 1) > 0]
        found.append(fits and (cell == 0 or any([found[cell - stride] for stride in behind])))
    return found


def ways_on(fit, sizes):
    """For each cell how many ways lead on to the last one, by steps of one more over cells that fit."""
    steps = list(zip(strides_of(sizes), sizes))
    last = len(fit) - 1
    ways = [0] * len(fit)
    ways[last] = 1 if fit[last] else 0
    for cell in reversed(range(last)):
        if fit[cell]:
            ways[cell] = sum([ways[cell + stride] for stride, size in steps if cell // stride % (size + 1) < size])
    return ways


def first_way(ways, numbers):
    """The first row, as tuples are ordered, from cell 0 to the last one, over cells with ways on.

    numbers are those of each kind, ascending; cell 0 has ways on.
    """
    sizes = [len(like) for like in numbers]
    strides = strides_of(sizes)
    row = []
    cell = 0
    while cell < len(ways) - 1:
        counts = counts_in(cell, sizes)
        open_kinds = [k for k in range(len(sizes)) if counts[k] < sizes[k] and ways[cell + strides[k]] > 0]
        number, kind = min([(numbers[k][counts[k]], k) for k in open_kinds])
        row.append(number)
        cell = cell + strides[kind]
    return tuple(row)
