"""The done sets to which single moves lead, and those from which they lead on to the full one."""

from lastgiver.cells import reached_cells, ways_on
from lastgiver.deals import allowed_masks, check_small_deal, sets_of


def reached(deal):
    """The tuple of the reached sets."""
    check_small_deal(deal)
    fit = allowed_masks(deal)
    return tuple(sets_of(deal, reached_cells(fit, [1] * len(deal.swap.hands))))


def live(deal):
    """The tuple of the live sets, none if there is no good row."""
    check_small_deal(deal)
    return tuple(sets_of(deal, live_masks(deal)))


def firsts(deal):
    """The numbers that come first in some good row."""
    check_small_deal(deal)
    alive = live_masks(deal)
    return tuple([number for number in range(len(deal.swap.hands)) if alive[1 << number]])


def lasts(deal):
    """The numbers that come last in some good row."""
    check_small_deal(deal)
    alive = live_masks(deal)
    full = len(alive) - 1
    return tuple([number for number in range(len(deal.swap.hands)) if alive[full - (1 << number)]])


def live_masks(deal):
    """For each mask of a done set of a small deal whether the set is live."""
    sizes = [1] * len(deal.swap.hands)
    fit = allowed_masks(deal)
    return [come and ways > 0 for come, ways in zip(reached_cells(fit, sizes), ways_on(fit, sizes))]
