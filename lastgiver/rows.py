"""The first good row of a deal, or a closed list; forced pairs."""

from lastgiver.cells import cells_in
from lastgiver.deals import check_small_deal
from lastgiver.fields import first_way
from lastgiver.papers import Denial, Paper, fixed
from lastgiver.reached import live_bits, reached


class Good(Paper):
    """A good row."""

    def __init__(self, row):
        self.word = "good"
        self.parts = fixed((row,))
        self.row = self.parts[0]


class Stuck(Denial):
    """A closed list of done sets: there is no good row."""

    def __init__(self, sets):
        self.word = "stuck"
        self.parts = fixed((sets,))
        self.sets = self.parts[0]


def find_row(deal):
    """A Good with the first good row, or a Stuck with the reached sets."""
    check_small_deal(deal)
    alive = live_bits(deal)
    if alive == 0:
        return Stuck(reached(deal))
    return Good(first_way(alive, [(number,) for number in range(len(deal.swap.hands))]))


def forced(deal):
    """The forced pairs, or the Stuck that find_row tells."""
    check_small_deal(deal)
    masks = cells_in(live_bits(deal))
    if len(masks) == 0:
        return Stuck(reached(deal))
    hands = range(len(deal.swap.hands))
    always = [_always_with(masks, number) for number in hands]
    return tuple([(one, other) for one in hands for other in hands if one != other and always[other] >> one & 1])


def _always_with(masks, number):
    """The mask of what all live sets that have this number have."""
    common = masks[-1]
    for mask in masks:
        if mask >> number & 1:
            common = common & mask
    return common
