"""The most groups of a way, its least greatest group, and the fewest groups."""

from lastgiver.cells import numbers_in
from lastgiver.deals import check_deal, check_ends
from lastgiver.errors import TooNarrow
from lastgiver.moved import (
    allowed_masks, check_few_hands, check_few_ways, check_largest, groups_to, moves_to, sizes_by_mask,
)
from lastgiver.papers import Paper, fixed


class Most(Paper):
    """The most groups, those of a way with so many, and ranks of all allowed sets that show it."""

    def __init__(self, number, groups, ranks):
        self.word = "most"
        self.parts = fixed((number, groups, ranks))
        self.number = self.parts[0]
        self.groups = self.parts[1]
        self.ranks = self.parts[2]


class Narrow(Paper):
    """The least greatest group, the groups of a way that has none greater, and a fence that shows it."""

    def __init__(self, number, groups, fence):
        self.word = "narrow"
        self.parts = fixed((number, groups, fence))
        self.number = self.parts[0]
        self.groups = self.parts[1]
        self.fence = self.parts[2]


class Few(Paper):
    """The fewest groups, those of a way with so few, and ranks that show it."""

    def __init__(self, number, groups, ranks):
        self.word = "few"
        self.parts = fixed((number, groups, ranks))
        self.number = self.parts[0]
        self.groups = self.parts[1]
        self.ranks = self.parts[2]


def most_groups(deal):
    """A Most; its ranks are the most moves that lead to each set."""
    check_few_ways(deal)
    many = len(deal.swap.hands)
    masks = allowed_masks(deal)
    sizes = sizes_by_mask(many)
    ranks = {0: 0}
    ahead = {}
    for mask in masks[1:]:
        rank, size, inner = max(moves_to(ranks, mask, sizes, many))
        ranks[mask] = rank + 1
        ahead[mask] = inner
    return Most(ranks[masks[-1]], groups_to(ahead, masks[-1], many), _told_by_sets(ranks, many))


def least_group(deal):
    """A Narrow."""
    check_few_ways(deal)
    many = len(deal.swap.hands)
    masks = allowed_masks(deal)
    needs, ahead = _least_needs(masks, many)
    number = needs[masks[-1]]
    fence = [numbers_in(mask, many) for mask in masks if needs[mask] < number]
    return Narrow(number, groups_to(ahead, masks[-1], many), fence)


def fewest_groups(deal, largest):
    """A Few; its ranks are the fewest moves that lead to each set."""
    check_deal(deal)
    check_largest(largest)
    check_ends(deal)
    check_few_hands(deal)
    many = len(deal.swap.hands)
    masks = allowed_masks(deal)
    least = _least_needs(masks, many)[0][masks[-1]]
    if least > largest:
        raise TooNarrow(least)
    sizes = sizes_by_mask(many)
    ranks = {0: 0}
    ahead = {}
    for mask in masks[1:]:
        moves = moves_to(ranks, mask, sizes, largest)
        if len(moves) > 0:
            rank, size, inner = min(moves)
            ranks[mask] = rank + 1
            ahead[mask] = inner
    return Few(ranks[masks[-1]], groups_to(ahead, masks[-1], many), _told_by_sets(ranks, many))


def _least_needs(masks, many):
    """For each of these sets the least greatest move on a way there, and the set ahead of it on such a way."""
    sizes = sizes_by_mask(many)
    needs = {0: 0}
    ahead = {}
    for mask in masks[1:]:
        need, inner = min([(max(value, size), inner) for value, size, inner in moves_to(needs, mask, sizes, many)])
        needs[mask] = need
        ahead[mask] = inner
    return needs, ahead


def _told_by_sets(ranks, many):
    """The pairs of sets and their ranks, for masks in the order of done sets."""
    return [(numbers_in(mask, many), rank) for mask, rank in ranks.items()]
