"""Pledges that are laid with a keeper ahead of all hand-overs, and given back behind all."""

from lastgiver.bounds import Bounds
from lastgiver.cells import sums_among
from lastgiver.checks import is_name, row_told
from lastgiver.deals import Deal, check_deal
from lastgiver.errors import BadKeeper, BadLaid, Below, TooMany, Twice
from lastgiver.papers import Denial, Paper, fixed
from lastgiver.ratios import Ratio, greatest_of, is_amount, least_of
from lastgiver.rows import find_row
from lastgiver.sums import along
from lastgiver.swaps import HandOver, Swap, check_stranger

MOST_LAID = 6


class LeastLaid(Paper):
    """The least amount to be laid, a good row with it, and closed lists for all lesser ones that are tried."""

    def __init__(self, number, row, closed):
        self.word = "leastlaid"
        self.parts = fixed((number, row, closed))
        self.number = self.parts[0]
        self.row = self.parts[1]
        self.closed = self.parts[2]


class NeverLaid(Denial):
    """Closed lists for all amounts that are tried."""

    def __init__(self, closed):
        self.word = "neverlaid"
        self.parts = fixed((closed,))
        self.closed = self.parts[0]


def laid(deal, keeper, amounts):
    """The deal in which strangers lay these amounts with a keeper, one stranger more."""
    check_deal(deal)
    if not is_name(keeper):
        raise BadKeeper("keeper")
    _check_amounts(deal, amounts)
    strangers = deal.swap.strangers
    if keeper in strangers:
        raise Twice(keeper)
    told = [(name, amounts[name]) for name in strangers if name in amounts and Ratio.of(amounts[name]).sign > 0]
    over = [HandOver(name, keeper, amount, 0) for name, amount in told]
    back = [HandOver(keeper, name, 0, amount) for name, amount in told]
    swap = Swap([*strangers, keeper], [*deal.swap.hands, *over, *back])
    bounds = Bounds([*deal.bounds.trusts, 0], [*deal.bounds.pledges, 0])
    return Deal(swap, bounds, [*deal.leanings.pairs, *_pairs_around(len(deal.swap.hands), len(told))])


def shifted(deal, amounts):
    """The deal with each trust less by the stranger's amount, each pledge greater by it."""
    check_deal(deal)
    _check_amounts(deal, amounts)
    trusts = []
    pledges = []
    for name, trust, pledge in zip(deal.swap.strangers, deal.bounds.trusts, deal.bounds.pledges):
        amount = Ratio.of(amounts.get(name, 0))
        if trust is not None and trust.is_below(amount):
            raise Below(name, "drawn", amount - trust)
        trusts.append(None if trust is None else trust - amount)
        pledges.append(None if pledge is None else pledge + amount)
    return deal.with_bounds(Bounds(trusts, pledges))


def span(deal, row, name):
    """The greatest less the least sum of a stranger in a row, less its net."""
    check_deal(deal)
    told = row_told(len(deal.swap.hands), row, "row")
    check_stranger(deal.swap, name)
    place = deal.swap.strangers.index(name)
    totals = [line[place] for line in along(deal.swap, told)]
    return greatest_of(totals) - least_of(totals) - deal.swap.nets[place]


def least_laid(deal, name):
    """A LeastLaid of a stranger, or a NeverLaid."""
    check_deal(deal)
    check_stranger(deal.swap, name)
    if len(deal.swap.hands) > MOST_LAID:
        raise TooMany("hands", MOST_LAID)
    closed = []
    for amount in amounts_tried(deal, name):
        found = find_row(shifted(deal, {name: amount}))
        if found:
            return LeastLaid(amount, found.row, closed)
        closed.append((amount, found.sets))
    return NeverLaid(closed)


def amounts_tried(deal, name):
    """The list of the amounts that are tried, ascending; none if the empty set is not allowed in the deal itself."""
    if not deal.is_allowed(()):
        return []
    track = deal.tracks[deal.swap.strangers.index(name)]
    if track.high is None:
        return [Ratio(0)]
    asked = [total - track.high for total in sums_among(0, track.effects)]
    tops = sorted({max(0, top) for top in [0, *asked] if track.low is None or top <= -track.low})
    return [Ratio(top, track.scale) for top in tops]


def _check_amounts(deal, amounts):
    """Raise BadLaid for what is no dict from strangers to ratios from 0 on."""
    if not isinstance(amounts, dict):
        raise BadLaid("amounts")
    if not all([is_name(name) and name in deal.swap.strangers and is_amount(amounts[name]) for name in amounts]):
        raise BadLaid("amounts")


def _pairs_around(old, many):
    """The pairs (e, f) of which e is laid or f gives back: behind the old ones so many are laid, then given back."""
    hands = range(old + 2 * many)
    pledged = range(old, old + many)
    back = range(old + many, old + 2 * many)
    return [
        (e, f) for e in hands for f in hands
        if (e in pledged and (f < old or e < f)) or (f in back and e < f)
    ]
