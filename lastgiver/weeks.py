"""Swaps done week after week, for ever."""

from lastgiver.bounds import Bounds
from lastgiver.deals import check_deal
from lastgiver.errors import BadShare, Loser
from lastgiver.ratios import Ratio, is_amount
from lastgiver.swaps import check_swap


def weekly(deal, q):
    """The deal with what leaving loses for ever in the place of each pledge."""
    check_deal(deal)
    _check_share(q)
    check_no_loser(deal.swap)
    factor = Ratio.of(q).over(_left_of(q))
    pledges = [net * factor for net in deal.swap.nets]
    return deal.with_bounds(Bounds(deal.bounds.trusts, pledges))


def forever(swap, q):
    """The line of what all weeks come to."""
    check_swap(swap)
    _check_share(q)
    return tuple([net.over(_left_of(q)) for net in swap.nets])


def check_no_loser(swap):
    """Raise Loser for the first stranger whose net is below 0."""
    for name, net in zip(swap.strangers, swap.nets):
        if net.sign < 0:
            raise Loser(name)


def _check_share(q):
    """Raise BadShare for what is no ratio from 0 on, below 1."""
    if not is_amount(q) or not Ratio.of(q).is_below(1):
        raise BadShare("q")


def _left_of(q):
    """1 less a share."""
    return Ratio(1) - q
