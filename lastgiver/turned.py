"""Swaps made of swaps: handed back, put together, renamed, in another order."""

from lastgiver.checks import are_names, check_none_twice, is_listed, is_name, row_told
from lastgiver.errors import BadSwap, Unlike
from lastgiver.sums import done_set
from lastgiver.swaps import HandOver, Swap, check_stranger, check_swap


def handed_back(swap):
    """Each hand-over goes from its taker to its giver, cost and gain exchanged."""
    check_swap(swap)
    return -swap


def one_after(*swaps):
    """The hand-overs of the first swap, then those of the second, and so on."""
    if len(swaps) == 0 or not all([isinstance(swap, Swap) for swap in swaps]):
        raise BadSwap("swaps")
    strangers = swaps[0].strangers
    if not all([swap.strangers == strangers for swap in swaps]):
        raise Unlike("strangers")
    return Swap(strangers, [hand for swap in swaps for hand in swap.hands])


def portion(swap, done):
    """The same strangers, and just these hand-overs."""
    told = done_set(swap, done)
    return Swap(swap.strangers, [swap.hands[number] for number in told])


def renamed(swap, names):
    """The swap with a new name for each stranger."""
    check_swap(swap)
    if not _renames(swap, names):
        raise BadSwap("names")
    strangers = [names[name] for name in swap.strangers]
    check_none_twice(strangers)
    return Swap(strangers, [_renamed_hand(hand, names) for hand in swap.hands])


def seated(swap, strangers):
    """The swap with its strangers in this order."""
    check_swap(swap)
    if not are_names(strangers) or sorted(list(strangers)) != sorted(list(swap.strangers)):
        raise BadSwap("strangers")
    return Swap(strangers, swap.hands)


def reordered(swap, order):
    """The swap whose hand-over number i had the number order[i]."""
    check_swap(swap)
    told = row_told(len(swap), order, "order")
    return Swap(swap.strangers, [swap.hands[number] for number in told])


def scaled(swap, ratio):
    """The swap with all costs and gains times the ratio."""
    check_swap(swap)
    return swap * ratio


def circles(swap):
    """The circles, tuples of names, in the order of their first strangers."""
    check_swap(swap)
    heads = {name: place for place, name in enumerate(swap.strangers)}
    for hand in swap.hands:
        head, joined = sorted([heads[hand.giver], heads[hand.taker]])
        heads = {name: head if heads[name] == joined else heads[name] for name in swap.strangers}
    return tuple([
        tuple([name for name in swap.strangers if heads[name] == place])
        for place, first in enumerate(swap.strangers)
        if heads[first] == place
    ])


def hands_among(swap, names):
    """The done set of the hand-overs whose giver and taker are both among the names."""
    check_swap(swap)
    if not is_listed(names):
        raise BadSwap("names")
    for name in names:
        check_stranger(swap, name)
    return tuple([
        number for number, hand in enumerate(swap.hands)
        if hand.giver in names and hand.taker in names
    ])


def _renames(swap, names):
    """Whether any value is a dict from just the strangers to names."""
    if not isinstance(names, dict) or len(names) != len(swap.strangers):
        return False
    return all([name in names and is_name(names[name]) for name in swap.strangers])


def _renamed_hand(hand, names):
    """The hand-over between those who have the new names."""
    return HandOver(names[hand.giver], names[hand.taker], hand.cost, hand.gain)
