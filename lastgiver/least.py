"""The least number of a deal on a dial, and the fence that shows it."""

from lastgiver.checks import done_told
from lastgiver.deals import check_deal
from lastgiver.dials import check_dial
from lastgiver.errors import TooMany
from lastgiver.fields import first_way, leading_cells
from lastgiver.needs import Seen
from lastgiver.papers import Denial, Paper, fixed

MOST_HANDS = 12


class Least(Paper):
    """The least number, a row that is good at it, its pinch, and the fence."""

    def __init__(self, number, row, pinch, fence):
        self.word = "least"
        self.parts = fixed((number, row, pinch, fence))
        self.number = self.parts[0]
        self.row = self.parts[1]
        self.pinch = self.parts[2]
        self.fence = self.parts[3]


class Never(Denial):
    """All sets that are reached at some number; no number does."""

    def __init__(self, sets):
        self.word = "never"
        self.parts = fixed((sets,))
        self.sets = self.parts[0]


def least(deal, dial, done=()):
    """A Least with the first row that is good at the number, or a Never."""
    seen = seen_from(deal, dial, done)
    if len(seen.numbers) > MOST_HANDS:
        raise TooMany("hands", MOST_HANDS)
    need = seen.least_need()
    if need is None:
        return Never(seen.sets_of(seen.field().reached_cells()))
    number = seen.number_of(need, 0)
    below = seen.field_below([number])
    fit = seen.field_at([number]).reached_cells()
    row = first_way(leading_cells(fit, seen.sizes), [(left,) for left in seen.numbers])
    return Least(number, row, pinch_of(seen, below, row), seen.sets_of(below.reached_cells()))


def seen_from(deal, dial, done):
    """The deal seen from a dial, from a done set on; the errors of all three."""
    check_deal(deal)
    check_dial(dial, "dial")
    told = done_told(len(deal.swap.hands), done, "done")
    dial.check_strangers(deal.swap)
    return Seen(deal, (dial,), told)


def pinch_of(seen, below, row):
    """The first moment of a row that is not free in the Field of what is below a number, None if there is none."""
    for moment, state in enumerate(seen.states_along(below, row)):
        if not below.is_free(state):
            return moment
    return None
