"""Held ways: rows of single hand-overs and of groups that keepers hold."""

from lastgiver.keepers import check_kept
from lastgiver.moved import allowed_masks, check_few_hands
from lastgiver.papers import Denial, Paper, fixed
from lastgiver.strokes import come_to, holders_of, sets_told, strokes_to


class Held(Paper):
    """The strokes of a held way."""

    def __init__(self, strokes):
        self.word = "held"
        self.parts = fixed((strokes,))
        self.strokes = self.parts[0]


class NotHeld(Denial):
    """Sets beyond which no stroke leads: there is no held way."""

    def __init__(self, sets):
        self.word = "notheld"
        self.parts = fixed((sets,))
        self.sets = self.parts[0]


def held_way(deal, keepers):
    """A Held, or the NotHeld of all sets that are come to."""
    check_kept(deal, keepers)
    check_few_hands(deal)
    many = len(deal.swap.hands)
    holders = holders_of(keepers)
    ahead = come_to(allowed_masks(deal), holders)
    full = (1 << many) - 1
    if full not in ahead:
        return NotHeld(sets_told(ahead, many))
    return Held(strokes_to(ahead, holders, full, many))


def count_held(deal, keepers):
    """How many held ways there are."""
    check_kept(deal, keepers)
    check_few_hands(deal)
    holders = holders_of(keepers)
    ways = {}
    for mask in allowed_masks(deal):
        told = [many * len(holders[one ^ mask]) for one, many in ways.items() if one & mask == one]
        ways[mask] = 1 if mask == 0 else sum(told)
    return ways.get((1 << len(deal.swap.hands)) - 1, 0)
