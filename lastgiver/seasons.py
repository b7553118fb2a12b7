"""A row played week after week, for a told number of weeks."""

from lastgiver.bounds import Bounds
from lastgiver.checks import is_within, row_told
from lastgiver.errors import BadNumber, BadShare, TooMany
from lastgiver.papers import Paper, fixed
from lastgiver.plays import played_from_behind
from lastgiver.ratios import Ratio, is_amount
from lastgiver.sums import along
from lastgiver.swaps import HandOver, Swap, check_swap

MOST_WEEKS = 24


class Season(Paper):
    """A row, and for each week whether each giver leaves, and the outcomes at each moment."""

    def __init__(self, row, leaves, outcomes):
        self.word = "season"
        self.parts = fixed((row, leaves, outcomes))
        self.row = self.parts[0]
        self.leaves = self.parts[1]
        self.outcomes = self.parts[2]


def season(swap, row, q, weeks):
    """The row played in so many weeks."""
    told = _row_of_weeks(swap, row, q, weeks)
    return season_told(swap, told, q, weeks)


def unrolled(swap, row, q, weeks):
    """The swap and the row of all weeks, one behind the other."""
    told = _row_of_weeks(swap, row, q, weeks)
    many = len(swap.hands)
    hands = []
    power = Ratio(1)
    for _ in range(weeks):
        hands = hands + [HandOver(hand.giver, hand.taker, hand.cost * power, hand.gain * power) for hand in swap.hands]
        power = power * q
    return Swap(swap.strangers, hands), tuple([week * many + number for week in range(weeks) for number in told])


def check_weeks(q, weeks):
    """Raise the error for what is no share, or no number of weeks."""
    if not is_amount(q) or Ratio(1).is_below(q):
        raise BadShare("q")
    if not is_within(weeks, 1, None):
        raise BadNumber("weeks")


def season_told(swap, row, q, weeks):
    """The Season of a row, however many weeks it has."""
    bounds = Bounds.zero(len(swap.strangers))
    lines = list(along(swap, row))
    leaves = []
    outcomes = []
    last = swap.nets
    for _ in range(weeks):
        found = played_from_behind(swap, bounds, row, lines, False, last)
        leaves.append(found[0])
        outcomes.append(found[1])
        last = tuple([net + outcome * q for net, outcome in zip(swap.nets, found[1][0])])
    return Season(row, leaves[::-1], outcomes[::-1])


def _row_of_weeks(swap, row, q, weeks):
    """The row as a tuple; the errors of what cannot be played in weeks."""
    check_swap(swap)
    told = row_told(len(swap.hands), row, "row")
    check_weeks(q, weeks)
    if weeks > MOST_WEEKS:
        raise TooMany("weeks", MOST_WEEKS)
    return told
