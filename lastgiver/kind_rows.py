"""Good rows of a deal without leanings, by kinds."""

from lastgiver.cells import counts_listed, strides_of
from lastgiver.deals import check_deal
from lastgiver.errors import BadDeal, TooMany
from lastgiver.fields import Field, bound_slacks, first_way, leading_cells, ways_on
from lastgiver.kinds import Kinds
from lastgiver.papers import Denial, fixed
from lastgiver.rows import Good

MOST_COUNTS = 4096


class StuckKinds(Denial):
    """A closed list of counts: there is no good row."""

    def __init__(self, counts):
        self.word = "stuckkinds"
        self.parts = fixed((counts,))
        self.counts = self.parts[0]


def find_by_kinds(deal):
    """A Good with the first good row, or a StuckKinds with the reached counts."""
    kinds = _kinds_told(deal)
    come = _field_of(deal, kinds).reached_cells()
    alive = leading_cells(come, kinds.sizes)
    if alive > 0:
        return Good(first_way(alive, kinds.numbers))
    return StuckKinds(counts_listed(come, kinds.sizes))


def count_by_kinds(deal):
    """How many good rows there are."""
    kinds = _kinds_told(deal)
    ways = ways_on(_field_of(deal, kinds).reached_cells(), kinds.sizes)
    return ways.get(0, 0) * kinds.orders


def check_unleant_deal(deal):
    """Raise BadDeal for what is no Deal, or one with leanings."""
    check_deal(deal)
    if len(deal.leanings.pairs) > 0:
        raise BadDeal("leanings")


def _kinds_told(deal):
    """The kinds of a deal without leanings that has not too many counts."""
    check_unleant_deal(deal)
    kinds = Kinds(deal.swap)
    if strides_of(kinds.sizes)[-1] > MOST_COUNTS:
        raise TooMany("counts", MOST_COUNTS)
    return kinds


def _field_of(deal, kinds):
    """The Field of the cells of counts, those that are not allowed being barred."""
    return Field(bound_slacks(deal.tracks, [numbers[0] for numbers in kinds.numbers]), kinds.sizes)
