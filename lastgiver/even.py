"""Even prices between two: lanes, and the filling."""

from math import gcd, lcm

from lastgiver.checks import is_within
from lastgiver.deals import check_deal, check_no_leaning
from lastgiver.errors import BadNumber, NotCoprime, NotEven, NotTwo, TooMany
from lastgiver.papers import Denial, Paper, fixed
from lastgiver.ratios import Ratio, greatest_of, least_of
from lastgiver.swaps import HandOver, Swap, check_swap


class Filled(Paper):
    """A row at each moment of which the first stranger's sum lies in the lane."""

    def __init__(self, row):
        self.word = "filled"
        self.parts = fixed((row,))
        self.row = self.parts[0]


class Outside(Denial):
    """The first moment or the last one, at which the first stranger's sum does not lie in the lane."""

    def __init__(self, moment):
        self.word = "outside"
        self.parts = fixed((moment,))
        self.moment = self.parts[0]


class Halted(Denial):
    """What the filling did when it halted."""

    def __init__(self, row):
        self.word = "halted"
        self.parts = fixed((row,))
        self.row = self.parts[0]


def lane(deal):
    """The pair of the lane's ends, None for one that is left out."""
    check_deal(deal)
    check_even_pair(deal.swap)
    net = deal.swap.nets[0]
    first_trust, second_trust = deal.bounds.trusts
    first_pledge, second_pledge = deal.bounds.pledges
    lows = []
    highs = []
    if first_trust is not None:
        lows.append(-first_trust)
    if second_pledge is not None:
        lows.append(net - second_pledge)
    if first_pledge is not None:
        highs.append(net + first_pledge)
    if second_trust is not None:
        highs.append(second_trust)
    return greatest_of(lows) if len(lows) > 0 else None, least_of(highs) if len(highs) > 0 else None


def grain(swap):
    """The greatest ratio of which each price is a whole multiple, 0 if all prices are 0."""
    check_swap(swap)
    check_even_pair(swap)
    top = 0
    bottom = 1
    for hand in swap.hands:
        # So it is for ratios in lowest terms.
        top = gcd(top, hand.cost.top)
        bottom = lcm(bottom, hand.cost.bottom)
    return Ratio(top, bottom)


def enough_width(swap):
    """Up plus down less the grain."""
    check_swap(swap)
    check_even_pair(swap)
    first, second = swap.strangers
    return _greatest_price(swap, second) + _greatest_price(swap, first) - grain(swap)


def filled(deal):
    """A Filled with the row that the filling makes, or else an Outside or a Halted."""
    check_fillable(deal)
    ends = lane(deal)
    many = len(deal.swap.hands)
    for moment, total in ((0, Ratio(0)), (many, deal.swap.nets[0])):
        if not lies_in(ends, total):
            return Outside(moment)
    name = deal.swap.strangers[0]
    row = []
    total = Ratio(0)
    while len(row) < many:
        number = _next_filled(deal.swap, ends, row, total)
        if number is None:
            return Halted(row)
        row.append(number)
        total = total + deal.swap.hands[number].effect(name)
    return Filled(row)


def hardest(p, q):
    """The Swap of p things of the price q against q things of the price p."""
    if not is_within(p, 1, None):
        raise BadNumber("p")
    if not is_within(q, 1, None):
        raise BadNumber("q")
    if gcd(p, q) != 1:
        raise NotCoprime(p, q)
    if p + q > Swap.MOST_HANDS:
        raise TooMany("hands", Swap.MOST_HANDS)
    return Swap(("one", "other"), [HandOver("other", "one", q, q)] * p + [HandOver("one", "other", p, p)] * q)


def check_even_pair(swap):
    """Raise the error for other than two strangers, or a hand-over whose cost is not its gain."""
    if len(swap.strangers) != 2:
        raise NotTwo(len(swap.strangers))
    for number, hand in enumerate(swap.hands):
        if hand.cost != hand.gain:
            raise NotEven(number)


def check_fillable(deal):
    """Raise the errors of a deal in which nothing can be filled."""
    check_deal(deal)
    check_even_pair(deal.swap)
    check_no_leaning(deal)


def lies_in(ends, total):
    """Whether a sum of the first stranger lies in a lane."""
    low, high = ends
    return (low is None or not total.is_below(low)) and (high is None or not high.is_below(total))


def _greatest_price(swap, name):
    """The greatest price of what a stranger gives, 0 if it gives nothing."""
    return greatest_of([0, *[hand.cost for hand in swap.hands if hand.giver == name]])


def _next_filled(swap, ends, row, total):
    """The number that the filling takes next behind these, or None."""
    first = swap.strangers[0]
    left = [number for number in range(len(swap.hands)) if number not in row]
    ups = [number for number in left if swap.hands[number].giver != first]
    downs = [number for number in left if swap.hands[number].giver == first]
    for number in [*ups, *downs]:
        if lies_in(ends, total + swap.hands[number].effect(first)):
            return number
    return None
