"""The done sets to which single moves lead, and those from which they lead on to the full one."""

from lastgiver.cells import sets_in
from lastgiver.deals import check_small_deal, field_of
from lastgiver.fields import leading_cells


def reached(deal):
    """The tuple of the reached sets."""
    check_small_deal(deal)
    return tuple(sets_in(field_of(deal).reached_cells(), len(deal.swap.hands)))


def live(deal):
    """The tuple of the live sets, none if there is no good row."""
    check_small_deal(deal)
    return tuple(sets_in(live_bits(deal), len(deal.swap.hands)))


def firsts(deal):
    """The numbers that come first in some good row."""
    check_small_deal(deal)
    alive = live_bits(deal)
    return tuple([number for number in range(len(deal.swap.hands)) if alive >> (1 << number) & 1])


def lasts(deal):
    """The numbers that come last in some good row."""
    check_small_deal(deal)
    alive = live_bits(deal)
    full = (1 << len(deal.swap.hands)) - 1
    return tuple([number for number in range(len(deal.swap.hands)) if alive >> (full - (1 << number)) & 1])


def live_bits(deal):
    """The bits of the masks of the live sets of a small deal."""
    return leading_cells(field_of(deal).reached_cells(), [1] * len(deal.swap.hands))
