"""The least purse of a keeper, and who has to rely on it."""

from lastgiver.cells import mask_of, sets_in_order
from lastgiver.errors import TooMany
from lastgiver.keepers import Keeper, check_kept, keeper_named
from lastgiver.moved import allowed_masks, check_few_hands
from lastgiver.papers import Denial, Paper, fixed
from lastgiver.ratios import Ratio
from lastgiver.strokes import Worths, come_to, sets_told, strokes_to

MOST_RELYING = 6


class LeastPurse(Paper):
    """The least purse, the strokes of a held way with it, and sets beyond which none leads with less."""

    def __init__(self, number, strokes, fence):
        self.word = "leastpurse"
        self.parts = fixed((number, strokes, fence))
        self.number = self.parts[0]
        self.strokes = self.parts[1]
        self.fence = self.parts[2]


class Reliers(Paper):
    """The least strangers with whom a held way exists, and the most with whom none does."""

    def __init__(self, least, barred):
        self.word = "reliers"
        self.parts = fixed((least, barred))
        self.least = self.parts[0]
        self.barred = self.parts[1]


class NoPurse(Denial):
    """Sets beyond which no stroke leads, whatever the purse is."""

    def __init__(self, sets):
        self.word = "nopurse"
        self.parts = fixed((sets,))
        self.sets = self.parts[0]


def least_purse(deal, keepers, name):
    """A LeastPurse of a keeper, or the NoPurse of all sets that are come to if its purse is no matter."""
    check_kept(deal, keepers, name)
    check_few_hands(deal)
    many = len(deal.swap.hands)
    worths = Worths(keepers)
    others = worths.told_of([keeper for keeper in keepers.keepers if keeper.name != name])
    relied = worths.relied(keeper_named(keepers, name))
    needs, ahead = _least_needs(allowed_masks(deal), _costs(worths, others, relied))
    full = (1 << many) - 1
    if full not in needs:
        return NoPurse(sets_told(needs, many))
    # A group that another keeper holds costs nothing: so the other one's name stands ahead.
    strokes = strokes_to(ahead, worths.holders([*others, (name, relied)]), full, many)
    fence = [mask for mask, need in needs.items() if need < needs[full]]
    return LeastPurse(Ratio(needs[full], worths.scale), strokes, sets_told(fence, many))


def reliers(deal, keepers, name):
    """The Reliers of a keeper."""
    check_kept(deal, keepers, name)
    if len(deal.swap.hands) > MOST_RELYING:
        raise TooMany("hands", MOST_RELYING)
    many = len(deal.swap.hands)
    tried = reliers_tried(deal, keepers, name)
    least = [(names, strokes_to(ahead, holders, (1 << many) - 1, many)) for names, holders, ahead in tried[0]]
    barred = [(names, sets_told(ahead, many)) for names, holders, ahead in tried[1]]
    return Reliers(least, barred)


def reliers_tried(deal, keepers, name):
    """Two lists: the least reliers of a keeper with whom a held way exists, and the most with whom none does.

    In both triples are told: the names, the holders by masks, and the sets that are come to with the ones ahead.
    """
    strangers = deal.swap.strangers
    full = (1 << len(deal.swap.hands)) - 1
    masks = allowed_masks(deal)
    found = {}
    for places in sets_in_order(len(strangers)):
        names = tuple([strangers[place] for place in places])
        holders = holders_if(keepers, name, names)
        found[mask_of(places)] = (names, holders, come_to(masks, holders))
    does = {mask: full in told[2] for mask, told in found.items()}
    steps = [1 << place for place in range(len(strangers))]
    least = [
        told for mask, told in found.items()
        if does[mask] and not any([does[mask ^ step] for step in steps if mask & step])
    ]
    barred = [
        told for mask, told in found.items()
        if not does[mask] and all([does[mask | step] for step in steps if not mask & step])
    ]
    return least, barred


def holders_if(keepers, name, names):
    """For each mask the tuple of those who hold it if just these strangers rely on the keeper of this name."""
    purse = keeper_named(keepers, name).purse
    keeper = Keeper(name, purse, *names)
    worths = Worths(keepers)
    return worths.holders(worths.told_of([keeper if one.name == name else one for one in keepers.keepers]))


def _costs(worths, others, relied):
    """For each mask what purse a stroke of it asks, in the scale of the worths; None if no purse is enough."""
    free = worths.holders(others)
    return [
        0 if len(names) > 0 else worth if own else None
        for names, worth, own in zip(free, worths.worths, relied)
    ]


def _least_needs(masks, costs):
    """For each of the allowed sets that is come to, what purse it asks at least, and the set ahead of it."""
    needs = {}
    ahead = {}
    for mask in masks:
        told = [
            (max(need, costs[one ^ mask]), one) for one, need in needs.items()
            if one & mask == one and costs[one ^ mask] is not None
        ]
        if mask == 0:
            needs[mask] = 0
        elif len(told) > 0:
            need, inner = min(told)
            needs[mask] = need
            ahead[mask] = inner
    return needs, ahead
