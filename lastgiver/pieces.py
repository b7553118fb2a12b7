"""Hand-overs cut into pieces, and good orders of these."""

from lastgiver.cells import Track, counts_listed, strides_of
from lastgiver.checks import are_integers, is_within
from lastgiver.deals import Deal, check_deal, check_no_leaning
from lastgiver.errors import BadCounts, BadNumber, BadPaper, TooMany
from lastgiver.fields import Field, bound_slacks, first_way, leading_cells
from lastgiver.papers import Denial, Paper, fixed
from lastgiver.swaps import HandOver, Swap, check_swap

MOST_TALLIES = 4096


class Pieced(Paper):
    """Counts, and a good piece order."""

    def __init__(self, counts, order):
        self.word = "pieced"
        self.parts = fixed((counts, order))
        self.counts = self.parts[0]
        self.order = self.parts[1]


class Unpieced(Denial):
    """Counts, and tallies that are reached: there is no good piece order."""

    def __init__(self, counts, reached):
        self.word = "unpieced"
        self.parts = fixed((counts, reached))
        self.counts = self.parts[0]
        self.reached = self.parts[1]


def cut(swap, counts):
    """The Swap of the pieces."""
    check_swap(swap)
    told = counts_told(len(swap.hands), counts)
    if sum(told) > Swap.MOST_HANDS:
        raise TooMany("hands", Swap.MOST_HANDS)
    return Swap(swap.strangers, [_piece_of(swap.hands[number], told[number]) for number in whole_of(told)])


def cut_deal(deal, counts):
    """The Deal of the pieces, with the deal's bounds."""
    told = pieces_told(deal, counts)
    return Deal(cut(deal.swap, told), deal.bounds)


def whole_of(counts):
    """For each piece the number of its hand-over."""
    if not are_counts_of_pieces(counts):
        raise BadCounts("counts")
    return tuple([number for number, count in enumerate(counts) for _ in range(count)])


def pieced(deal, counts):
    """A Pieced with the first good piece order, or an Unpieced with the reached tallies."""
    told = pieces_told(deal, counts)
    check_tallies(told)
    numbers = list(range(len(told)))
    field = Field(bound_slacks(piece_tracks(deal, told), numbers), told)
    come = field.reached_cells()
    alive = leading_cells(come, told)
    if alive == 0:
        return Unpieced(told, counts_listed(come, told))
    return Pieced(told, first_way(alive, [[number] * told[number] for number in numbers]))


def stretched(paper, times):
    """The Pieced with each count times as great, and each number of its order times over."""
    if type(paper) is not Pieced or not are_counts_of_pieces(paper.counts):
        raise BadPaper("paper")
    if not is_piece_order(paper.counts, paper.order):
        raise BadPaper("paper")
    if not is_within(times, 1, None):
        raise BadNumber("times")
    return Pieced([count * times for count in paper.counts], [number for number in paper.order for _ in range(times)])


def are_counts_of_pieces(value):
    """Whether any value is a list or tuple of integers from 1 on."""
    return are_integers(value) and all([count >= 1 for count in value])


def counts_told(many, counts):
    """The counts of so many hand-overs as a tuple; one integer stands for all."""
    if is_within(counts, 1, None):
        return (counts,) * many
    if not are_counts_of_pieces(counts) or len(counts) != many:
        raise BadCounts("counts")
    return tuple(counts)


def pieces_told(deal, counts):
    """The counts of a deal as a tuple; the errors of what cannot be cut."""
    check_deal(deal)
    told = counts_told(len(deal.swap.hands), counts)
    check_no_leaning(deal)
    return told


def check_tallies(counts):
    """Raise TooMany for counts of more tallies than can be looked at."""
    if strides_of(counts)[-1] > MOST_TALLIES:
        raise TooMany("tallies", MOST_TALLIES)


def is_piece_order(counts, value):
    """Whether any value is a list or tuple that has each number as often as its count tells."""
    if not are_integers(value) or len(value) != sum(counts):
        return False
    return sorted(list(value)) == list(whole_of(counts))


def piece_tracks(deal, counts):
    """The Tracks of all strangers, the effect of each hand-over being that of one piece of it."""
    tracks = []
    bounds = deal.bounds
    for name, net, trust, pledge in zip(deal.swap.strangers, deal.swap.nets, bounds.trusts, bounds.pledges):
        effects = [hand.effect(name).over(count) for hand, count in zip(deal.swap.hands, counts)]
        tracks.append(Track(effects, net, trust, pledge))
    return tracks


def _piece_of(hand, count):
    """One piece of a hand-over cut into so many."""
    return HandOver(hand.giver, hand.taker, hand.cost.over(count), hand.gain.over(count))
