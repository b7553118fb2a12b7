"""Changes of a deal, and what becomes of its numbers, rows and lines."""

from lastgiver.bounds import Bounds
from lastgiver.checks import done_told, is_listed, row_told
from lastgiver.deals import Deal, check_deal
from lastgiver.errors import BadNumber, Unlike
from lastgiver.ratios import Ratio, is_ratio
from lastgiver.sums import gave
from lastgiver.swaps import HandOver, Swap
from lastgiver.turned import renamed, reordered, scaled, seated


class DealChange:
    """A deal, another one made of it, and what becomes of numbers and strangers."""

    def __init__(self, before, deal, numbers, names, factor, idle):
        self.before = before
        self.deal = deal
        self.numbers = numbers
        self.names = names
        self.factor = factor
        self.idle = idle

    def done_after(self, done):
        """What becomes of a done set."""
        told = done_told(len(self.before.swap.hands), done, "done")
        return tuple(sorted([self.numbers[number] for number in told]))

    def row_after(self, row):
        """What becomes of a row, idle hand-overs of the change behind it."""
        told = row_told(len(self.before.swap.hands), row, "row")
        return (*[self.numbers[number] for number in told], *self.idle)

    def row_before(self, row):
        """The row before of a row of the other deal, without idle hand-overs of the change."""
        told = row_told(len(self.deal.swap.hands), row, "row")
        earlier = {after: number for number, after in enumerate(self.numbers)}
        return tuple([earlier[number] for number in told if number in earlier])

    def line_after(self, line):
        """What becomes of a line."""
        if not is_listed(line) or len(line) != len(self.names) or not all([is_ratio(item) for item in line]):
            raise BadNumber("line")
        told = {name: Ratio.of(item) * self.factor for name, item in zip(self.names, line)}
        return tuple([told.get(name, Ratio(0)) for name in self.deal.swap.strangers])

    def __mul__(self, other):
        if not isinstance(other, DealChange) or other.before != self.deal:
            raise Unlike("deal")
        names = {name: after for name, after in zip(other.before.swap.strangers, other.names)}
        return DealChange(
            self.before, other.deal, tuple([other.numbers[number] for number in self.numbers]),
            tuple([names[name] for name in self.names]), self.factor * other.factor,
            (*[other.numbers[number] for number in self.idle], *other.idle),
        )


def renaming(deal, names):
    """The change that gives each stranger a new name."""
    check_deal(deal)
    swap = renamed(deal.swap, names)
    return _changed(deal, Deal(swap, deal.bounds, deal.leanings), None, swap.strangers)


def seating(deal, strangers):
    """The change that sets the strangers in this order."""
    check_deal(deal)
    swap = seated(deal.swap, strangers)
    places = [deal.swap.strangers.index(name) for name in swap.strangers]
    trusts = [deal.bounds.trusts[place] for place in places]
    pledges = [deal.bounds.pledges[place] for place in places]
    return _changed(deal, Deal(swap, Bounds(trusts, pledges), deal.leanings), None, None)


def ordering(deal, order):
    """The change after which hand-over number i is the one that had the number order[i]."""
    check_deal(deal)
    swap = reordered(deal.swap, order)
    after = {number: place for place, number in enumerate(order)}
    pairs = [(after[one], after[other]) for one, other in deal.leanings.pairs]
    numbers = tuple([after[number] for number in range(len(order))])
    return _changed(deal, Deal(swap, deal.bounds, pairs), numbers, None)


def scaling(deal, ratio):
    """The change that multiplies all costs, gains and bounds by the ratio."""
    check_deal(deal)
    swap = scaled(deal.swap, ratio)
    bounds = Bounds(_times(deal.bounds.trusts, ratio), _times(deal.bounds.pledges, ratio))
    return _changed(deal, Deal(swap, bounds, deal.leanings), None, None, Ratio.of(ratio))


def adding(deal, name):
    """The change that adds a stranger, the last one, without hand-overs, trust and pledge."""
    check_deal(deal)
    swap = Swap([*deal.swap.strangers, name], deal.swap.hands)
    bounds = Bounds([*deal.bounds.trusts, 0], [*deal.bounds.pledges, 0])
    return _changed(deal, Deal(swap, bounds, deal.leanings), None, None)


def idling(deal, giver, taker):
    """The change that adds a hand-over of cost 0 and gain 0 behind all."""
    check_deal(deal)
    swap = Swap(deal.swap.strangers, [*deal.swap.hands, HandOver(giver, taker, 0, 0)])
    found = Deal(swap, deal.bounds, deal.leanings.pairs)
    return _changed(deal, found, None, None, Ratio(1), (len(deal.swap.hands),))


def capping(deal):
    """The change that caps each bound at the sum of all costs that its stranger gives."""
    check_deal(deal)
    every = list(range(len(deal.swap.hands)))
    caps = [gave(deal.swap, every, name) for name in deal.swap.strangers]
    bounds = Bounds(_capped(deal.bounds.trusts, caps), _capped(deal.bounds.pledges, caps))
    return _changed(deal, deal.with_bounds(bounds), None, None)


def _changed(deal, after, numbers, names, factor=None, idle=()):
    """The DealChange; where None is told, numbers or names stay, or the factor is 1."""
    kept = tuple(range(len(deal.swap.hands))) if numbers is None else numbers
    called = deal.swap.strangers if names is None else names
    return DealChange(deal, after, kept, called, Ratio(1) if factor is None else factor, idle)


def _times(bounds, ratio):
    """These bounds times a ratio; a wide one stays wide."""
    return [None if bound is None else bound * ratio for bound in bounds]


def _capped(bounds, caps):
    """These bounds, each that is wide or greater than its cap being the cap."""
    return [cap if bound is None or cap.is_below(bound) else bound for bound, cap in zip(bounds, caps)]
