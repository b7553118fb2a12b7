"""Plain answers on ways by groups, keepers and laid pledges, by trying all; what is right, told as the document tells it."""

import itertools
import random
from fractions import Fraction

from lastgiver.bounds import Bounds
from lastgiver.deals import Deal
from lastgiver.keepers import Keeper, Keepers
from lastgiver.ratios import Ratio
from lastgiver.swaps import Swap

from support import all_sets, as_fraction, is_same, plain_allowed, plain_broken, plain_objections, random_deals, random_swap

BOTH = Deal(Swap.read("ann bob | ann bob 1 2 | bob ann 1 2 | ann bob 1 2"), Bounds([0, 0], [1, 0]))
BARE = Deal(Swap.ring("ann", "bob", "cay"), Bounds.zero(3))
NONE = Deal(Swap(["ann", "bob"], []), Bounds.zero(2))
# The empty set is not allowed; then the full one.
NO_BEGINNING = Deal(Swap.read("ann bob | ann bob 2 3"), Bounds.zero(2))
NO_END = Deal(Swap.read("ann bob | ann bob 2 3"), Bounds([0, 0], [2, 0]))
NO_GROUPS_TOLD = [
    None, True, 1.5, "", "01", b"01", {}, {1: 2}, set(), object(), int, 3, [0, 1], [[0], 1], [[0], None], [[0], "1"], [[]], [[0], [], [1]],
    [[0, True]], [[0, 1.0]], [[0, None]], [[[0]], [[1]]], ["0"], [{0: 1}], [[Ratio(0)]],
]


def allowed_in(deal):
    """All allowed sets, in their order."""
    return [done for done in all_sets(len(deal)) if plain_allowed(deal, done)]


def has_way(deal):
    """Whether the empty and the full set are allowed."""
    return plain_allowed(deal, ()) and plain_allowed(deal, tuple(range(len(deal))))


def tight_deal(rnd, swap):
    """A deal with bounds that are little more than is needed for a way."""
    told = [[Ratio(0) if net.sign >= 0 else -net for net in swap.nets]] * 2
    return Deal(swap, Bounds(*[[bound + rnd.choice([0, 0, 1]) for bound in bounds] for bounds in told]))


def way_deals(seed, times, hands=5):
    """Deals that have a way, some of them with no bound greater than it needs."""
    rnd = random.Random(seed)
    told = [deal for deal in random_deals(seed, times, hands) if has_way(deal)]
    return told + [tight_deal(rnd, random_swap(rnd, rnd.choice([2, 3]), rnd.randrange(hands + 1))) for _ in range(times // 4)]


def without(done, other):
    """What one set has more than another one."""
    return tuple(sorted(set(done) - set(other)))


def plain_ways(deal, largest=None):
    """The lists of the groups of all ways, by trying all lists of allowed sets."""
    allowed, full, found = allowed_in(deal), tuple(range(len(deal))), []
    layer = [[()]] if () in allowed else []
    while layer:
        found += [sets for sets in layer if sets[-1] == full]
        layer = [[*sets, done] for sets in layer for done in allowed if set(sets[-1]) < set(done)]
    told = [[without(one, other) for other, one in zip(sets, sets[1:])] for sets in found]
    return [groups for groups in told if largest is None or all(len(group) <= largest for group in groups)]


def is_set(many, value):
    """Whether a value is a done set as papers tell it."""
    if not isinstance(value, tuple) or not all(type(number) is int and 0 <= number < many for number in value):
        return False
    return list(value) == sorted(set(value))


def is_way(deal, groups):
    """Whether a value has the groups of a way."""
    many = len(deal)
    if not isinstance(groups, tuple) or not all(is_set(many, group) and group for group in groups):
        return False
    if sorted(number for group in groups for number in group) != list(range(many)):
        return False
    return all(plain_allowed(deal, sorted(itertools.chain(*groups[:k]))) for k in range(len(groups) + 1))


def pairs_in(value):
    """The items of a value that is a tuple of pairs, or None."""
    if not isinstance(value, tuple) or not all(isinstance(pair, tuple) and len(pair) == 2 for pair in value):
        return None
    return value


def right_together(deal, sets, lines):
    """Whether lines tell for just these sets, in any order, what bars each."""
    if pairs_in(lines) is None or not all(is_set(len(deal), done) for done, _ in lines):
        return False
    if sorted(done for done, _ in lines) != sorted(sets):
        return False
    for done, reason in lines:
        objected = [(name, side, Ratio(*amount.as_integer_ratio())) for name, side, amount in plain_objections(deal, done)]
        if not any(is_same(reason, right) for right in [*plain_broken(deal, done), *objected]):
            return False
    return True


def ranks_in(deal, value):
    """The dict of ranks of different allowed sets, or None."""
    if pairs_in(value) is None or not all(is_set(len(deal), done) and type(rank) is int for done, rank in value):
        return None
    if not all(plain_allowed(deal, done) for done, _ in value) or len(dict(value)) < len(value):
        return None
    return dict(value)


def right_most(deal, parts):
    """Whether these are the parts of a right Most."""
    number, groups, told = parts
    ranks, full = ranks_in(deal, told), tuple(range(len(deal)))
    if type(number) is not int or not is_way(deal, groups) or len(groups) != number or ranks is None:
        return False
    if sorted(ranks) != sorted(allowed_in(deal)) or ranks[()] != 0 or ranks[full] != number:
        return False
    return all(ranks[one] < ranks[other] for one in ranks for other in ranks if set(one) < set(other))


def right_narrow(deal, parts):
    """Whether these are the parts of a right Narrow."""
    number, groups, fence = parts
    if type(number) is not int or not is_way(deal, groups) or any(len(group) > number for group in groups):
        return False
    if len(deal) == 0:
        return number == 0 and fence == ()
    if not isinstance(fence, tuple) or not all(is_set(len(deal), done) and plain_allowed(deal, done) for done in fence):
        return False
    if len(set(fence)) < len(fence) or () not in fence or tuple(range(len(deal))) in fence:
        return False
    return all(
        other in fence or len(other) - len(one) >= number
        for one in fence for other in allowed_in(deal) if set(one) < set(other)
    )


def right_few(deal, largest, parts):
    """Whether these are the parts of a right Few."""
    number, groups, told = parts
    ranks, full = ranks_in(deal, told), tuple(range(len(deal)))
    if type(number) is not int or not is_way(deal, groups) or len(groups) != number or ranks is None:
        return False
    if any(len(group) > largest for group in groups) or ranks.get(()) != 0 or ranks.get(full) != number:
        return False
    return all(
        other in ranks and ranks[other] <= ranks[one] + 1
        for one in ranks for other in allowed_in(deal) if set(one) < set(other) and len(other) - len(one) <= largest
    )


def plain_holds(keepers, keeper, group, purse=None):
    """Whether a keeper holds a group, with this purse in the place of its own."""
    worth = sum((as_fraction(keepers.worths[number]) for number in group), Fraction(0))
    names = {name for number in group for name in (keepers.swap.hands[number].giver, keepers.swap.hands[number].taker)}
    most = as_fraction(keeper.purse if purse is None else purse)
    return len(group) > 1 and names <= set(keeper.relied_on_by) and worth <= most


def plain_strokes(keepers, group):
    """The names with which a group is a stroke."""
    if len(group) == 1:
        return [None]
    return [keeper.name for keeper in keepers.keepers if plain_holds(keepers, keeper, group)]


def plain_come_to(deal, is_stroke):
    """All sets that are come to, in their order."""
    found = []
    for done in allowed_in(deal):
        if done == () or any(set(one) < set(done) and is_stroke(without(done, one)) for one in found):
            found.append(done)
    return found


def plain_held_ways(deal, keepers):
    """All held ways, lists of strokes."""
    return [
        tuple(zip(groups, names)) for groups in plain_ways(deal)
        for names in itertools.product(*[plain_strokes(keepers, group) for group in groups])
    ]


def right_strokes(deal, keepers, value):
    """Whether a value has the strokes of a held way."""
    if pairs_in(value) is None or not is_way(deal, tuple(group for group, _ in value)):
        return False
    return all(any(type(name) is type(right) and name == right for right in plain_strokes(keepers, group)) for group, name in value)


def right_closed(deal, is_stroke, value):
    """Whether a value has closed sets."""
    if not isinstance(value, tuple) or not all(is_set(len(deal), done) for done in value) or len(set(value)) < len(value):
        return False
    if not all(plain_allowed(deal, done) for done in value) or tuple(range(len(deal))) in value:
        return False
    if () not in value and plain_allowed(deal, ()):
        return False
    return all(
        other in value or not is_stroke(without(other, one))
        for one in value for other in allowed_in(deal) if set(one) < set(other)
    )


def random_keepers(rnd, swap, many=2):
    """Keepers of a swap, some of whom hold something."""
    names = ["kin", "lo", "mo", "nu"][:many]
    worths = [rnd.choice([0, 1, 1, 1, 2, Ratio(1, 2), Ratio(4, 3)]) for _ in swap]
    keepers = []
    for name in names:
        relying = [stranger for stranger in swap.strangers if rnd.random() < 0.9]
        keepers.append(Keeper(name, rnd.choice([0, 1, 2, Ratio(5, 2), 4, 9]), *rnd.sample(relying, len(relying))))
    return Keepers(swap, worths, *keepers)


def kept_deals(seed, times, hands=4, many=2):
    """Pairs of a deal and keepers of its swap."""
    rnd = random.Random(seed)
    deals = random_deals(seed + 1, times, hands)
    deals += [tight_deal(rnd, random_swap(rnd, rnd.choice([2, 3]), rnd.randrange(hands + 1))) for _ in range(times // 2)]
    return [(deal, random_keepers(rnd, deal.swap, rnd.randrange(many + 1))) for deal in deals]
