"""The least number of a deal on a dial, and the fence that shows it."""

from lastgiver.cells import bits_of
from lastgiver.checks import done_told
from lastgiver.deals import check_deal
from lastgiver.dials import check_dial
from lastgiver.errors import TooMany
from lastgiver.fields import first_way, leading_cells
from lastgiver.needs import Seen, least_needs
from lastgiver.papers import Denial, Paper, fixed

MOST_HANDS = 12


class Least(Paper):
    """The least number, a row that is good at it, its pinch, and the fence."""

    def __init__(self, number, row, pinch, fence):
        self.word = "least"
        self.parts = fixed((number, row, pinch, fence))
        self.number = self.parts[0]
        self.row = self.parts[1]
        self.pinch = self.parts[2]
        self.fence = self.parts[3]


class Never(Denial):
    """All sets that are reached at some number; no number does."""

    def __init__(self, sets):
        self.word = "never"
        self.parts = fixed((sets,))
        self.sets = self.parts[0]


def least(deal, dial, done=()):
    """A Least with the first row that is good at the number, or a Never."""
    seen = seen_from(deal, dial, done)
    many = len(seen.left)
    if many > MOST_HANDS:
        raise TooMany("hands", MOST_HANDS)
    come = seen.field().reached_cells()
    full = (1 << many) - 1
    if not come >> full & 1:
        return Never(seen.sets_of(come))
    needs = seen.needs_in(come, 0)
    on_the_way = least_needs(needs, many)
    most = on_the_way[full]
    fit = bits_of([cell for cell, need in needs.items() if need <= most])
    row = first_way(leading_cells(fit, seen.sizes), [(number,) for number in seen.left])
    fence = bits_of([cell for cell, need in on_the_way.items() if need < most])
    return Least(seen.number_of(most, 0), row, _pinch_of(seen, needs, row, most), seen.sets_of(fence))


def seen_from(deal, dial, done):
    """The deal seen from a dial, from a done set on; the errors of all three."""
    check_deal(deal)
    check_dial(dial, "dial")
    told = done_told(len(deal.swap.hands), done, "done")
    dial.check_strangers(deal.swap)
    return Seen(deal, (dial,), told)


def _pinch_of(seen, needs, row, most):
    """The first moment of a row whose need is this number."""
    cell = 0
    for moment, number in enumerate(row):
        if needs[cell] == most:
            return moment
        cell = cell + (1 << seen.left.index(number))
    return len(row)
