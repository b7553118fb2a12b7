"""Two dials turned apart: which pairs of numbers do, and which of these are least."""

from lastgiver.cells import bits_of
from lastgiver.deals import check_deal
from lastgiver.dials import check_dial
from lastgiver.errors import BadDial, BadNumber, TooMany
from lastgiver.fields import first_way, leading_cells
from lastgiver.least import Never
from lastgiver.needs import Seen, least_needs
from lastgiver.papers import Paper, fixed
from lastgiver.ratios import Ratio, is_amount

MOST_HANDS = 8


class Front(Paper):
    """The points, a row that is good at each, and the fences between them."""

    def __init__(self, points, rows, fences):
        self.word = "front"
        self.parts = fixed((points, rows, fences))
        self.points = self.parts[0]
        self.rows = self.parts[1]
        self.fences = self.parts[2]

    def does(self, x, y):
        """Whether some point is greater in neither number."""
        _check_amount(x, "x")
        _check_amount(y, "y")
        return any([not Ratio.of(x).is_below(one) and not Ratio.of(y).is_below(other) for one, other in self.points])

    def cheapest(self, a, b):
        """The least a x + b y of a point (x, y), and the index of the first such point."""
        _check_amount(a, "a")
        _check_amount(b, "b")
        prices = [Ratio.of(x) * a + Ratio.of(y) * b for x, y in self.points]
        first = 0
        for place, price in enumerate(prices):
            if price.is_below(prices[first]):
                first = place
        return prices[first], first


def front(deal, one, other):
    """A Front with the first rows, or a Never."""
    seen = seen_from_both(deal, one, other)
    many = len(seen.numbers)
    if many > MOST_HANDS:
        raise TooMany("hands", MOST_HANDS)
    come = seen.field().reached_cells()
    if not come >> ((1 << many) - 1) & 1:
        return Never(seen.sets_of(come))
    return _front_within(seen, come)


def seen_from_both(deal, one, other):
    """The deal seen from two dials; the errors of all three."""
    check_deal(deal)
    check_dial(one, "one")
    check_dial(other, "other")
    if _have_common(one.trust_weights, other.trust_weights) or _have_common(one.pledge_weights, other.pledge_weights):
        raise BadDial("other")
    one.check_strangers(deal.swap)
    other.check_strangers(deal.swap)
    return Seen(deal, (one, other), ())


def _front_within(seen, come):
    """The Front of a deal in which the full set is among the cells that are reached at some pair.

    Each point has the least first number below the second number of the point ahead of it.
    """
    many = len(seen.numbers)
    full = (1 << many) - 1
    firsts = seen.needs_in(come, 0)
    seconds = seen.needs_in(come, 1)
    points = []
    rows = []
    fences = []
    on_the_way = least_needs(firsts, many)
    while full in on_the_way:
        x = on_the_way[full]
        fences.append(seen.sets_of(bits_of([cell for cell, need in on_the_way.items() if need < x])))
        y = least_needs({cell: need for cell, need in seconds.items() if firsts[cell] <= x}, many)[full]
        points.append((seen.number_of(x, 0), seen.number_of(y, 1)))
        fit = bits_of([cell for cell, need in seconds.items() if need <= y and firsts[cell] <= x])
        rows.append(first_way(leading_cells(fit, seen.sizes), [(number,) for number in seen.numbers]))
        on_the_way = least_needs({cell: need for cell, need in firsts.items() if seconds[cell] < y}, many)
    fences.append(seen.sets_of(bits_of(on_the_way)))
    return Front(points, rows, fences)


def _have_common(pairs, others):
    """Whether some name is among both pairs of names and weights."""
    names = [pair[0] for pair in others]
    return any([pair[0] in names for pair in pairs])


def _check_amount(value, part):
    """Raise BadNumber for any value that is no ratio from 0 on."""
    if not is_amount(value):
        raise BadNumber(part)
