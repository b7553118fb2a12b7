"""Good rows of a deal without leanings, by kinds."""

from lastgiver.cells import bearable, counts_in, first_way, reached_cells, strides_of, ways_on
from lastgiver.deals import check_deal
from lastgiver.errors import BadDeal, TooMany
from lastgiver.kinds import Kinds
from lastgiver.papers import Denial
from lastgiver.rows import Good

MOST_COUNTS = 4096


class StuckKinds(Denial):
    """A closed list of counts: there is no good row."""

    def __init__(self, counts):
        Denial.__init__(self, "stuckkinds", counts)
        self.counts = self.parts[0]


def find_by_kinds(deal):
    """A Good with the first good row, or a StuckKinds with the reached counts."""
    kinds = _kinds_told(deal)
    fit = _allowed_cells(deal, kinds)
    ways = ways_on(fit, kinds.sizes)
    if ways[0] > 0:
        return Good(first_way(ways, kinds.numbers))
    come = reached_cells(fit, kinds.sizes)
    counts = [counts_in(cell, kinds.sizes) for cell, found in enumerate(come) if found]
    ordered = sorted([(sum(told), told) for told in counts])
    return StuckKinds([pair[1] for pair in ordered])


def count_by_kinds(deal):
    """How many good rows there are."""
    kinds = _kinds_told(deal)
    return ways_on(_allowed_cells(deal, kinds), kinds.sizes)[0] * kinds.orders


def check_unleant_deal(deal):
    """Raise BadDeal for what is no Deal, or one with leanings."""
    check_deal(deal)
    if len(deal.leanings.pairs) > 0:
        raise BadDeal("leanings")


def _kinds_told(deal):
    """The kinds of a deal without leanings that has not too many counts."""
    check_unleant_deal(deal)
    kinds = Kinds(deal.swap)
    if strides_of(kinds.sizes)[-1] > MOST_COUNTS:
        raise TooMany("counts", MOST_COUNTS)
    return kinds


def _allowed_cells(deal, kinds):
    """For each cell of counts whether they are allowed."""
    return bearable(deal.tracks, [numbers[0] for numbers in kinds.numbers], kinds.sizes)
