"""Done sets of a swap, and what they sum up to."""

from lastgiver.cells import sets_in_order
from lastgiver.checks import done_told, hands_told
from lastgiver.errors import TooMany
from lastgiver.ratios import Ratio, added
from lastgiver.swaps import check_stranger, check_swap

MOST_HANDS = 12


def done_set(swap, done):
    """The done set, ascending."""
    check_swap(swap)
    return done_told(len(swap), done, "done")


def rest(swap, done):
    """The done set of all other numbers."""
    told = done_set(swap, done)
    return tuple([number for number in range(len(swap)) if number not in told])


def sums(swap, done):
    """The line that adds up the effects at a done set."""
    told = done_set(swap, done)
    return tuple([_effects_on(swap, told, name) for name in swap.strangers])


def sum_of(swap, done, name):
    """What the sums have for one stranger."""
    told = done_set(swap, done)
    check_stranger(swap, name)
    return _effects_on(swap, told, name)


def gave(swap, done, name):
    """The costs of what a stranger gives at a done set, added up."""
    told = done_set(swap, done)
    check_stranger(swap, name)
    return added([swap[number].cost for number in told if swap[number].giver == name])


def took(swap, done, name):
    """The gains of what a stranger takes at a done set, added up."""
    told = done_set(swap, done)
    check_stranger(swap, name)
    return added([swap[number].gain for number in told if swap[number].taker == name])


def along(swap, numbers):
    """Yield the sums behind none, the first, the first two .. of some hand-overs."""
    check_swap(swap)
    told = hands_told(len(swap), numbers, "numbers")
    line = tuple([Ratio(0) for name in swap.strangers])
    yield line
    for number in told:
        line = _line_behind(swap, line, number)
        yield line


def done_sets(swap):
    """Yield all done sets, those with fewer numbers first."""
    check_swap(swap)
    if len(swap) > MOST_HANDS:
        raise TooMany("hands", MOST_HANDS)
    for done in sets_in_order(len(swap)):
        yield done


def _effects_on(swap, numbers, name):
    """What these hand-overs together bring a stranger."""
    return added([swap[number].effect(name) for number in numbers])


def _line_behind(swap, line, number):
    """The line with the effect of one hand-over more."""
    return tuple([total + swap[number].effect(name) for total, name in zip(line, swap.strangers)])
