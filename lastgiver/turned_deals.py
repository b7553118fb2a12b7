"""Deals made of deals: exchanged, handed back, what is left behind a done set."""

from lastgiver.bounds import Bounds
from lastgiver.checks import done_told
from lastgiver.deals import Deal, check_deal
from lastgiver.errors import Ahead, Below, Objected
from lastgiver.leanings import pairs_among
from lastgiver.sums import rest, sums
from lastgiver.turned import handed_back, portion


def exchanged(deal):
    """The same swap, each trust and pledge exchanged, each leaning turned."""
    check_deal(deal)
    return Deal(deal.swap, deal.bounds.exchanged(), deal.leanings.turned())


def handed_back_deal(deal):
    """The swap handed back, each bound greater by the stranger's net, each leaning turned."""
    check_deal(deal)
    trusts = _raised(deal.bounds.trusts, deal.swap.nets)
    pledges = _raised(deal.bounds.pledges, deal.swap.nets)
    for name, trust, pledge in zip(deal.swap.strangers, trusts, pledges):
        _check_not_below(name, "drawn", trust)
        _check_not_below(name, "leaves", pledge)
    return Deal(handed_back(deal.swap), Bounds(trusts, pledges), deal.leanings.turned())


def rest_deal(deal, done):
    """What is left behind an allowed done set."""
    check_deal(deal)
    told = done_told(len(deal.swap.hands), done, "done")
    _check_allowed(deal, told)
    left = rest(deal.swap, told)
    trusts = _raised(deal.bounds.trusts, sums(deal.swap, told))
    return Deal(portion(deal.swap, left), Bounds(trusts, deal.bounds.pledges), pairs_among(deal.leanings, left))


def _raised(bounds, line):
    """These bounds, each greater by what the line tells; a wide one stays wide."""
    return [None if bound is None else bound + more for bound, more in zip(bounds, line)]


def _check_not_below(name, side, bound):
    """Raise Below for a bound below 0."""
    if bound is not None and bound.sign < 0:
        raise Below(name, side, -bound)


def _check_allowed(deal, done):
    """Raise what first bars a done set that is not allowed."""
    broken = deal.broken(done)
    if len(broken) > 0:
        raise Ahead(broken[0][0], broken[0][1])
    objected = deal.objections(done)
    if len(objected) > 0:
        raise Objected(objected[0].name, objected[0].amount)
