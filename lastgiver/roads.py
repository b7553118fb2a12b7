"""Roads: how far off a swap's hand-overs are from the straight way to its nets, and what is enough for them."""

from lastgiver.bounds import Bounds
from lastgiver.papers import Paper, fixed
from lastgiver.ratios import Ratio, greatest_of
from lastgiver.spans import Span, inverse_of, sum_of_greatest, whole_lines
from lastgiver.sums import done_set, rest, sums
from lastgiver.swaps import check_swap
from lastgiver.turned import portion
from lastgiver.walked import above_on, lent_on


class Rank(Paper):
    """The rank of a swap, hand-overs with so many off lines, and lines that tell these apart."""

    def __init__(self, number, kept, pulls):
        self.word = "rank"
        self.parts = fixed((number, kept, pulls))
        self.number = self.parts[0]
        self.kept = self.parts[1]
        self.pulls = self.parts[2]


def off(swap):
    """The off lines of all hand-overs."""
    check_swap(swap)
    if len(swap.hands) == 0:
        return ()
    step = [net.over(len(swap.hands)) for net in swap.nets]
    return tuple([
        tuple([hand.effect(name) - part for name, part in zip(swap.strangers, step)])
        for hand in swap.hands
    ])


def rank(swap):
    """The Rank of a swap."""
    check_swap(swap)
    return ranked(swap)


def ranked(swap):
    """The Rank of a swap; its lines are 0 for all but as many strangers as they are."""
    width = len(swap.strangers)
    rows, scales = whole_lines(off(swap), width)
    span = Span(width)
    kept = [number for number, row in enumerate(rows) if span.take(row) is None]
    inverse = inverse_of([[rows[number][pivot] for pivot in span.pivots] for number in kept])
    pulls = []
    for place in range(len(kept)):
        pull = [Ratio(0) for name in swap.strangers]
        for pivot, row in zip(span.pivots, inverse):
            pull[pivot] = row[place] * scales[pivot]
        pulls.append(pull)
    return Rank(len(kept), kept, pulls)


def enough_bounds(swap):
    """The Bounds of enough trust and enough pledge."""
    check_swap(swap)
    number = _rank_of(swap)
    trusts = []
    pledges = []
    for name, net in zip(swap.strangers, swap.nets):
        costs = sum_of_greatest([hand.cost for hand in swap.hands if hand.giver == name], number)
        gains = sum_of_greatest([hand.gain for hand in swap.hands if hand.taker == name], number)
        ends = _ends_of_road(len(swap.hands), number, net)
        trusts.append(greatest_of([0, -net, *[costs - end for end in ends]]))
        pledges.append(greatest_of([0, -net, *[gains + end - net for end in ends]]))
    return Bounds(trusts, pledges)


def from_here(swap, done):
    """Bounds that are enough for the row of each chain of what is left, from a done set on."""
    told = done_set(swap, done)
    enough_left = enough_bounds(portion(swap, rest(swap, told)))
    line = sums(swap, told)
    trusts = [greatest_of([0, trust - total]) for trust, total in zip(enough_left.trusts, line)]
    return Bounds(trusts, enough_left.pledges)


def chest(swap, done=()):
    """What is lent, and what is above, at most, at all moments of a chain's row behind a done set."""
    told = done_set(swap, done)
    left = portion(swap, rest(swap, told))
    number = _rank_of(left)
    line = sums(swap, told)
    lent = greatest_of([lent_on(line), lent_on(swap.nets)])
    costs = sum_of_greatest([hand.cost for hand in left.hands], number)
    gains = sum_of_greatest([hand.gain for hand in left.hands], number)
    return lent + costs, above_on(swap, line) + gains


def _rank_of(swap):
    """The number of a swap's rank."""
    width = len(swap.strangers)
    span = Span(width)
    for row in whole_lines(off(swap), width)[0]:
        span.take(row)
    return len(span.pivots)


def _ends_of_road(many, number, net):
    """Between its first and its last moment, a stranger's road at a rank's number of moments behind.

    The road is straight: the least and the greatest that it has there are at its ends.
    """
    if many < 2:
        return []
    return [(net * max(0, moment - number)).over(many) for moment in (1, many - 1)]
