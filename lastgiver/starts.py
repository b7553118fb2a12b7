"""Rows begun at another place, so that one stranger is spared."""

from lastgiver.checks import are_integers, is_within, row_told
from lastgiver.errors import BadNumber, BadRow, Loser
from lastgiver.sums import along
from lastgiver.swaps import check_stranger, check_swap


def begun_at(row, start):
    """The row from a place on, then what is ahead of it."""
    if not are_integers(row) or sorted(list(row)) != list(range(len(row))):
        raise BadRow("row")
    if not is_within(start, 0, max(0, len(row) - 1)):
        raise BadNumber("start")
    return tuple([*row[start:], *row[:start]])


def spared(swap, row, name):
    """The row begun where the stranger is furthest below the road."""
    told, above = _above_road(swap, row, name)
    return begun_at(told, _least_place(above))


def bound_to(swap, row, name):
    """The row begun where the stranger is furthest above the road."""
    told, above = _above_road(swap, row, name)
    return begun_at(told, _least_place([-amount for amount in above]))


def _above_road(swap, row, name):
    """The row as a tuple, and for each moment ahead of its end the stranger's sum less the road."""
    check_swap(swap)
    told = row_told(len(swap.hands), row, "row")
    check_stranger(swap, name)
    net = swap.net(name)
    if net.sign < 0:
        raise Loser(name)
    place = swap.strangers.index(name)
    totals = [line[place] for line in along(swap, told)]
    return told, [totals[moment] - (net * moment).over(len(told)) for moment in range(len(told))]


def _least_place(ratios):
    """The first place at which a ratio is least, 0 if there are none."""
    least = 0
    for place, ratio in enumerate(ratios):
        if ratio.is_below(ratios[least]):
            least = place
    return least
