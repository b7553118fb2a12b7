"""Into how many pieces hand-overs have to be cut."""

from lastgiver.checks import is_within
from lastgiver.deals import check_deal, check_no_leaning
from lastgiver.errors import BadNumber, TooMany
from lastgiver.papers import Denial, Paper, fixed
from lastgiver.pieces import check_tallies, pieced
from lastgiver.ratios import Ratio, greatest_of
from lastgiver.roads import rank
from lastgiver.weeks import check_no_loser

MOST_HANDS = 6
MOST_EXTRA = 4


class LeastPieces(Paper):
    """Into how many pieces all are cut, a good piece order, and the reached tallies of each lesser number."""

    def __init__(self, pieces, order, denials):
        self.word = "leastpieces"
        self.parts = fixed((pieces, order, denials))
        self.pieces = self.parts[0]
        self.order = self.parts[1]
        self.denials = self.parts[2]


class FewestPieces(Paper):
    """Counts, a good piece order, and for all counts ahead the pairs of them and the reached tallies."""

    def __init__(self, counts, order, denials):
        self.word = "fewestpieces"
        self.parts = fixed((counts, order, denials))
        self.counts = self.parts[0]
        self.order = self.parts[1]
        self.denials = self.parts[2]


class EnoughPieces(Paper):
    """A number of pieces that is enough by the rank."""

    def __init__(self, pieces):
        self.word = "enoughpieces"
        self.parts = fixed((pieces,))
        self.pieces = self.parts[0]


class NoPieces(Denial):
    """The most pieces tried, and the reached tallies of each number."""

    def __init__(self, most, denials):
        self.word = "nopieces"
        self.parts = fixed((most, denials))
        self.most = self.parts[0]
        self.denials = self.parts[1]


class NoFewest(Denial):
    """How many extra pieces were tried, and the pairs of all counts and the reached tallies."""

    def __init__(self, extra, denials):
        self.word = "nofewest"
        self.parts = fixed((extra, denials))
        self.extra = self.parts[0]
        self.denials = self.parts[1]


class Tight(Denial):
    """Who has a bound of 0 of which more is asked, and on which side."""

    def __init__(self, name, side):
        self.word = "tight"
        self.parts = fixed((name, side))
        self.name = self.parts[0]
        self.side = self.parts[1]


def fitting(deal, most):
    """Yield the pairs of a number of pieces, from 1 to the most, and what pieced tells of it."""
    _check_fitting(deal, most)
    for pieces in range(1, most + 1):
        yield (pieces, pieced(deal, pieces))


def least_pieces(deal, most):
    """A LeastPieces, or a NoPieces."""
    _check_fitting(deal, most)
    denials = []
    for pieces in range(1, most + 1):
        found = pieced(deal, pieces)
        if found:
            return LeastPieces(pieces, found.order, denials)
        denials.append(found.reached)
    return NoPieces(most, denials)


def fewest_pieces(deal, extra):
    """A FewestPieces, or a NoFewest."""
    check_deal(deal)
    if not is_within(extra, 0, MOST_EXTRA):
        raise BadNumber("extra")
    check_no_leaning(deal)
    if len(deal.swap.hands) > MOST_HANDS:
        raise TooMany("hands", MOST_HANDS)
    denials = []
    for counts in counts_in_turn(len(deal.swap.hands), extra):
        found = pieced(deal, counts)
        if found:
            return FewestPieces(counts, found.order, denials)
        denials.append((counts, found.reached))
    return NoFewest(extra, denials)


def enough_pieces(deal):
    """An EnoughPieces, or a Tight."""
    check_deal(deal)
    check_no_leaning(deal)
    check_no_loser(deal.swap)
    number = rank(deal.swap).number
    pieces = 1
    for name, trust, pledge in zip(deal.swap.strangers, deal.bounds.trusts, deal.bounds.pledges):
        costs = [hand.cost for hand in deal.swap.hands if hand.giver == name]
        gains = [hand.gain for hand in deal.swap.hands if hand.taker == name]
        for side, bound, told in (("drawn", trust, costs), ("leaves", pledge, gains)):
            asked = greatest_of([0, *told]) * number
            if bound is not None and asked.sign > 0:
                if bound.sign == 0:
                    return Tight(name, side)
                pieces = max(pieces, _least_whole(asked.over(bound)))
    return EnoughPieces(pieces)


def counts_in_turn(many, extra):
    """The list of all counts of so many hand-overs with so many extra pieces at most, by their sums, then as tuples."""
    found = []
    for more in range(extra + 1):
        found = found + _counts_with(many, more)
    return found


def _counts_with(many, more):
    """The list of all counts of so many hand-overs with just so many extra pieces, as tuples are ordered."""
    if many == 0:
        return [()] if more == 0 else []
    if many == 1:
        return [(more + 1,)]
    return [(first + 1, *others) for first in range(more + 1) for others in _counts_with(many - 1, more - first)]


def _check_fitting(deal, most):
    """Raise the errors of what cannot be fitted."""
    check_deal(deal)
    if not is_within(most, 1, None):
        raise BadNumber("most")
    check_no_leaning(deal)
    check_tallies((most,) * len(deal.swap.hands))


def _least_whole(ratio):
    """The least integer that is no less than a ratio."""
    told = Ratio.of(ratio)
    return -(-told.top // told.bottom)
