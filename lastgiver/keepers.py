"""Keepers: others than the strangers, who hold groups of hand-overs for those who rely on them."""

from lastgiver.checks import are_names, check_none_twice, hands_told, is_listed, is_name
from lastgiver.deals import check_deal
from lastgiver.errors import BadDone, BadKeeper, BadKeepers, NoKeeper, NoStranger, TooMany, Twice, Unlike
from lastgiver.ratios import Ratio, added, is_amount
from lastgiver.swaps import check_swap

MOST_KEEPERS = 4
LEAST_GROUP = 2


class Keeper:
    """A name, a purse, and the names of the strangers who rely on it."""

    def __init__(self, name, purse, *relied_on_by):
        if not is_name(name):
            raise BadKeeper("name")
        if not is_amount(purse):
            raise BadKeeper("purse")
        if not are_names(relied_on_by):
            raise BadKeeper("stranger")
        check_none_twice(relied_on_by)
        self.name = name
        self.purse = Ratio.of(purse)
        self.relied_on_by = tuple(sorted(list(relied_on_by)))

    def with_purse(self, purse):
        """The Keeper with this purse."""
        names = self.relied_on_by
        return Keeper(self.name, purse, *names)

    def __contains__(self, x):
        return is_name(x) and x in self.relied_on_by

    def __eq__(self, other):
        if not isinstance(other, Keeper) or self.name != other.name:
            return False
        return self.purse == other.purse and self.relied_on_by == other.relied_on_by


class Keepers:
    """The keepers of a swap, and what each hand-over is worth."""

    def __init__(self, swap, worths, *keepers):
        check_swap(swap)
        if not is_listed(worths) or len(worths) != len(swap.hands) or not all([is_amount(worth) for worth in worths]):
            raise BadKeepers("worths")
        if not all([isinstance(keeper, Keeper) for keeper in keepers]):
            raise BadKeepers("keepers")
        _check_names(swap, keepers)
        _check_relying(swap, keepers)
        if len(keepers) > MOST_KEEPERS:
            raise TooMany("keepers", MOST_KEEPERS)
        self.swap = swap
        self.worths = tuple([Ratio.of(worth) for worth in worths])
        self.keepers = keepers

    def placed(self, keeper):
        """These Keepers, with this one in the place of the one of its name."""
        if not isinstance(keeper, Keeper):
            raise BadKeeper("keeper")
        keeper_named(self, keeper.name)
        told = [keeper if one.name == keeper.name else one for one in self.keepers]
        return Keepers(self.swap, self.worths, *told)

    def reasons(self, name, group):
        """What stands against this keeper's holding a group: ("relies", stranger), then ("purse", amount)."""
        keeper = keeper_named(self, name)
        told = hands_told(len(self.swap.hands), group, "group")
        if len(told) < LEAST_GROUP:
            raise BadDone("group")
        hands = [self.swap.hands[number] for number in told]
        parties = [party for hand in hands for party in (hand.giver, hand.taker)]
        found = [
            ("relies", stranger) for stranger in self.swap.strangers
            if stranger in parties and stranger not in keeper.relied_on_by
        ]
        above = added([self.worths[number] for number in told]) - keeper.purse
        if above.sign > 0:
            found.append(("purse", above))
        return tuple(found)

    def __eq__(self, other):
        if not isinstance(other, Keepers) or self.swap != other.swap:
            return False
        return self.worths == other.worths and self.keepers == other.keepers


def keeper_named(keepers, name):
    """The Keeper of this name; NoKeeper for any value that is none's."""
    found = [keeper for keeper in keepers.keepers if is_name(name) and keeper.name == name]
    if len(found) == 0:
        raise NoKeeper(name)
    return found[0]


def check_kept(deal, keepers, *names):
    """Raise the errors of a deal, its keepers, and the names of some of these."""
    check_deal(deal)
    if not isinstance(keepers, Keepers):
        raise BadKeepers("keepers")
    for name in names:
        keeper_named(keepers, name)
    if keepers.swap != deal.swap:
        raise Unlike("swap")


def _check_names(swap, keepers):
    """Raise Twice for the first keeper whose name is a stranger's or stood ahead."""
    met = {name: True for name in swap.strangers}
    for keeper in keepers:
        if keeper.name in met:
            raise Twice(keeper.name)
        met[keeper.name] = True


def _check_relying(swap, keepers):
    """Raise NoStranger for the first who relies on a keeper and is no stranger."""
    for keeper in keepers:
        for name in keeper.relied_on_by:
            if name not in swap.strangers:
                raise NoStranger(name)
