"""The first good row of a deal, or a closed list; forced pairs."""

from lastgiver.cells import first_way, ways_on
from lastgiver.deals import allowed_masks, check_small_deal
from lastgiver.papers import Denial, Paper
from lastgiver.reached import live_masks, reached


class Good(Paper):
    """A good row."""

    def __init__(self, row):
        Paper.__init__(self, "good", row)
        self.row = self.parts[0]


class Stuck(Denial):
    """A closed list of done sets: there is no good row."""

    def __init__(self, sets):
        Denial.__init__(self, "stuck", sets)
        self.sets = self.parts[0]


def find_row(deal):
    """A Good with the first good row, or a Stuck with the reached sets."""
    check_small_deal(deal)
    many = len(deal.swap.hands)
    ways = ways_on(allowed_masks(deal), [1] * many)
    if ways[0] == 0:
        return Stuck(reached(deal))
    return Good(first_way(ways, [(number,) for number in range(many)]))


def forced(deal):
    """The forced pairs, or the Stuck that find_row tells."""
    check_small_deal(deal)
    alive = live_masks(deal)
    if not alive[-1]:
        return Stuck(reached(deal))
    hands = range(len(deal.swap.hands))
    always = [_always_with(alive, number) for number in hands]
    return tuple([(one, other) for one in hands for other in hands if one != other and always[other] >> one & 1])


def _always_with(alive, number):
    """The mask of what all live sets that have this number have."""
    common = len(alive) - 1
    for mask, lives in enumerate(alive):
        if lives and mask >> number & 1:
            common = common & mask
    return common
