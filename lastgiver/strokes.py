"""Strokes: single hand-overs, and groups that keepers hold; groups and sets are told by masks."""

from math import lcm

from lastgiver.cells import mask_of, numbers_in, sums_among
from lastgiver.moved import sizes_by_mask
from lastgiver.ratios import Ratio


class Worths:
    """What groups of a swap's hand-overs are worth, and on whom all who have part in them rely."""

    def __init__(self, keepers):
        self.sizes = sizes_by_mask(len(keepers.swap.hands))
        scale = 1
        for worth in keepers.worths:
            scale = lcm(scale, worth.bottom)
        self.scale = scale
        self.worths = sums_among(0, [worth.top * (scale // worth.bottom) for worth in keepers.worths])
        self._strangers = keepers.swap.strangers
        self._parties = _parties_among(keepers.swap)

    def relied(self, keeper):
        """For each mask whether it is a group all of whose givers and takers rely on a keeper."""
        others = mask_of([place for place, name in enumerate(self._strangers) if name not in keeper.relied_on_by])
        return [size >= 2 and parties & others == 0 for size, parties in zip(self.sizes, self._parties)]

    def held(self, keeper):
        """For each mask whether it is a group that a keeper holds."""
        most = keeper.purse.top * self.scale
        by = keeper.purse.bottom
        return [relied and worth * by <= most for relied, worth in zip(self.relied(keeper), self.worths)]

    def held_below(self, keeper, number):
        """For each mask whether all rely on a keeper for this group, which is worth less than a number."""
        least = Ratio.of(number)
        return [
            relied and worth * least.bottom < least.top * self.scale
            for relied, worth in zip(self.relied(keeper), self.worths)
        ]

    def told_of(self, keepers):
        """For each of some keepers the pair of its name and of what it holds."""
        return [(keeper.name, self.held(keeper)) for keeper in keepers]

    def holders(self, told):
        """For each mask the tuple of the names of those who hold it, by such pairs; for a single one of None."""
        return [
            (None,) if size == 1 else tuple([name for name, held in told if held[mask]])
            for mask, size in enumerate(self.sizes)
        ]


def holders_of(keepers):
    """For each mask the tuple of the names of the keepers who hold it; for a single one of None."""
    worths = Worths(keepers)
    return worths.holders(worths.told_of(keepers.keepers))


def come_to(masks, holders):
    """A dict of the sets that are come to, among the allowed ones: the one ahead of each, None for the empty one."""
    ahead = {}
    for mask in masks:
        inner = [one for one in ahead if one & mask == one and len(holders[one ^ mask]) > 0]
        if mask == 0:
            ahead[mask] = None
        elif len(inner) > 0:
            ahead[mask] = inner[-1]
    return ahead


def strokes_to(ahead, holders, mask, many):
    """The list of the strokes that lead to a set, if for each set on the way the one ahead of it is told."""
    found = []
    behind = mask
    while behind > 0:
        group = behind ^ ahead[behind]
        found.append((numbers_in(group, many), holders[group][0]))
        behind = ahead[behind]
    return found[::-1]


def sets_told(masks, many):
    """The list of the done sets of some masks."""
    return [numbers_in(mask, many) for mask in masks]


def _parties_among(swap):
    """For each group the mask of the places of its givers and takers."""
    found = [0]
    for hand in swap.hands:
        own = mask_of([swap.strangers.index(hand.giver), swap.strangers.index(hand.taker)])
        found = found + [parties | own for parties in found]
    return found
