"""What the tests share: wrong values, a test case that reads errors, and plain answers by trying all."""

import itertools
import random
import unittest
from fractions import Fraction

from lastgiver.bounds import Bounds
from lastgiver.deals import Deal
from lastgiver.dials import Dial
from lastgiver.errors import LastError
from lastgiver.papers import Paper
from lastgiver.ratios import Ratio
from lastgiver.swaps import HandOver, Swap

CUP = Swap(("ann", "bob"), [HandOver("ann", "bob", 2, 3), HandOver("bob", "ann", 2, 3)])
NO_HANDS = Swap(("ann", "bob"), [])
ODD = [None, True, False, 1.5, float("nan"), "", "ann bob", b"ann", {}, {1: 2}, set(), object(), int, len]
NO_NUMBERS = [*ODD, "1", [], (), [1], Ratio(1, 2), Ratio(1)]
NO_RATIOS = [*ODD, "1", [], (), [1]]
NO_AMOUNTS = [*NO_RATIOS, -1, Ratio(-1, 2)]
NO_NAMES = [*ODD, "Ann", "1a", "a-b", "a b", "abcdefghijklm", "\u00e4", "a\u0661", "a\n", " a", ["ann"], 3]
NO_LISTS = [*ODD, "1", 3, Ratio(1), CUP]
NO_DONE = [*NO_LISTS, [True], [0, None], ["0"], (Ratio(0),), [[0]], [1.0], [0, 0.0]]
NO_DEALS = [*ODD, CUP, Bounds.zero(2), [], 3, str(CUP)]
NO_SWAPS = [*ODD, Bounds.zero(2), [], 3, str(CUP), Deal(CUP, Bounds.zero(2))]
# For two hand-overs.
NO_ROWS = [*NO_LISTS, [], (0,), (1, 2), (0, 0), (0, 1, 1), (0, 1, 2), (0, True), (-1, 0), (0, 1.0), ("0", "1"), ((0, 1),)]
NO_SHARES = [*NO_AMOUNTS, Ratio(-1, 10 ** 9), 2, Ratio(3, 2)]


class Case(unittest.TestCase):
    """A test case that reads the fields of errors."""

    def check_raises(self, expected, work, *told, **more):
        """The call raises an error of just this class, with just these fields, ratios as Ratios."""
        with self.assertRaises(LastError) as caught:
            work(*told, **more)
        self.assertIs(type(expected), type(caught.exception), (work, told, caught.exception))
        self.check_same(vars(expected), vars(caught.exception))

    def check_each_raises(self, expected, values, work):
        """The function raises this error for each of the values."""
        for value in values:
            self.check_raises(expected, work, value)

    def check_same(self, expected, found):
        """Equal, and of the same classes all the way in."""
        self.assertIs(type(expected), type(found), (expected, found))
        if isinstance(expected, (list, tuple)):
            self.assertEqual(len(expected), len(found), (expected, found))
            for one, other in zip(expected, found):
                self.check_same(one, other)
        elif isinstance(expected, dict):
            self.check_same(sorted(expected), sorted(found))
            for key in expected:
                self.check_same(expected[key], found[key])
        elif expected == expected:
            self.assertEqual(expected, found)

    def check_equality(self, made, others):
        """What made() gives twice is equal; unlike others and values of other classes."""
        self.assertTrue(made() == made())
        self.assertFalse(made() != made())
        for other in [*others, *ODD, [], 3, str(made())]:
            self.assertFalse(made() == other, other)
            self.assertTrue(made() != other, other)

    def check_read(self, kind, text):
        """The class reads the text, and writes it again."""
        value = kind.read(text)
        self.assertIs(kind, type(value))
        self.assertEqual(text, str(value))
        self.assertEqual(value, kind.read(text=text))


def line(*ratios):
    """A line, as it is returned."""
    return tuple(Ratio.of(ratio) for ratio in ratios)


def as_fraction(ratio):
    """A Fraction of a ratio."""
    return Fraction(ratio.top, ratio.bottom) if isinstance(ratio, Ratio) else Fraction(ratio)


def all_sets(many):
    """All done sets, in their order."""
    return [done for size in range(many + 1) for done in itertools.combinations(range(many), size)]


def plain_sums(swap, done):
    """The sums at a done set, as Fractions."""
    totals = dict.fromkeys(swap.strangers, Fraction(0))
    for number in done:
        hand = swap.hands[number]
        totals[hand.giver] -= as_fraction(hand.cost)
        totals[hand.taker] += as_fraction(hand.gain)
    return [totals[name] for name in swap.strangers]


def plain_objections(deal, done):
    """Triples of the objections at a done set."""
    found = []
    nets = plain_sums(deal.swap, range(len(deal.swap.hands)))
    for place, total in enumerate(plain_sums(deal.swap, done)):
        trust, pledge = deal.bounds.trusts[place], deal.bounds.pledges[place]
        name = deal.swap.strangers[place]
        if trust is not None and -as_fraction(trust) - total > 0:
            found.append((name, "drawn", -as_fraction(trust) - total))
        if pledge is not None and total - nets[place] - as_fraction(pledge) > 0:
            found.append((name, "leaves", total - nets[place] - as_fraction(pledge)))
    return found


def plain_broken(deal, done):
    """The leanings that a done set breaks."""
    return [(one, other) for one, other in deal.leanings.pairs if other in done and one not in done]


def plain_allowed(deal, done):
    """Whether a done set is allowed."""
    return not plain_broken(deal, done) and not plain_objections(deal, done)


def plain_good(deal, row):
    """Whether a row is good."""
    return all(plain_allowed(deal, row[:moment]) for moment in range(len(row) + 1))


def plain_good_rows(deal):
    """All good rows, by trying all orders."""
    allowed = {done for done in all_sets(len(deal)) if plain_allowed(deal, done)}
    rows = itertools.permutations(range(len(deal)))
    return [row for row in rows if all(tuple(sorted(row[:k])) in allowed for k in range(len(row) + 1))]


def plain_reached(deal):
    """All reached sets, in their order."""
    found = set()
    for done in all_sets(len(deal)):
        behind = [tuple(number for number in done if number != left) for left in done]
        if plain_allowed(deal, done) and (not done or any(one in found for one in behind)):
            found.add(done)
    return [done for done in all_sets(len(deal)) if done in found]


def plain_live(deal):
    """All live sets, in their order, by all good rows."""
    found = {tuple(sorted(row[:k])) for row in plain_good_rows(deal) for k in range(len(row) + 1)}
    return [done for done in all_sets(len(deal)) if done in found]


def random_ratio(rnd, most=4):
    """A ratio from 0 on, often whole."""
    return Ratio(rnd.randrange(most + 1), rnd.choice([1, 1, 1, 2, 3]))


def random_swap(rnd, strangers, hands, gainful=False):
    """A swap with some like hand-overs in it."""
    names = ["ann", "bob", "cay", "dan", "eve", "fay"][:strangers]
    told = []
    for _ in range(hands):
        if told and rnd.random() < 0.3:
            told.append(rnd.choice(told))
        else:
            giver, taker = rnd.sample(names, 2)
            told.append(HandOver(giver, taker, random_ratio(rnd), random_ratio(rnd) + (2 if gainful else 0)))
    return Swap(names, told)


def random_bound(rnd, most=4):
    """A bound, sometimes wide."""
    return None if rnd.random() < 0.15 else random_ratio(rnd, most)


def random_pairs(rnd, hands, many):
    """Some leanings without a ring."""
    order = list(range(hands))
    rnd.shuffle(order)
    pairs = list(itertools.combinations(order, 2))
    return rnd.sample(pairs, min(many, len(pairs)))


def random_deal(rnd, strangers, hands, leanings=0, most=4):
    """A deal with bounds of which some bar something."""
    swap = random_swap(rnd, strangers, hands)
    trusts = [random_bound(rnd, most) for _ in swap.strangers]
    pledges = [random_bound(rnd, most) for _ in swap.strangers]
    return Deal(swap, Bounds(trusts, pledges), random_pairs(rnd, hands, leanings))


def random_deals(seed, times, hands=5, leanings=True):
    """A list of deals, some of which have good rows."""
    rnd = random.Random(seed)
    told = []
    for _ in range(times):
        many = rnd.choice([0, 1, 2, 3]) if leanings and rnd.random() < 0.6 else 0
        told.append(random_deal(rnd, rnd.choice([2, 2, 3, 4]), rnd.randrange(hands + 1), many, rnd.choice([2, 4, 8])))
    return told


def loosened(value):
    """A paper's part as a caller may tell it: lists for tuples, integers for whole ratios."""
    if isinstance(value, tuple):
        return [loosened(item) for item in value]
    return value.top if isinstance(value, Ratio) and value.bottom == 1 else value


def bent_leaf(value):
    """Values that do not stand for this one."""
    if isinstance(value, Paper):
        return [None, 0, value.parts, type(value)]
    if isinstance(value, bool):
        return [not value, int(value), Ratio(int(value)), None]
    if isinstance(value, Ratio):
        bools = [True, False] if value in (0, 1) else []
        return [value + 1, -value - Ratio(1, 2), value * 2 + 3, None, str(value), (value,), *bools, 0.5]
    if isinstance(value, int):
        bools = [bool(value)] if value in (0, 1) else []
        return [value + 1, value - 1, -1, Ratio(value), None, str(value), float(value), *bools]
    return [0, False, "", (), "zed"] if value is None else [None, 0, True, value + "x", value.upper(), ()]


def bent(value):
    """A paper's part, bent at one place, in turn at each."""
    if not isinstance(value, tuple):
        yield from bent_leaf(value)
        return
    yield None
    yield (*value, value)
    for place, item in enumerate(value):
        yield value[:place] + value[place + 1:]
        yield value[:place] + (item, item) + value[place + 1:]
        if place > 0 and value[place - 1] != item:
            yield value[:place - 1] + (item, value[place - 1]) + value[place + 1:]
        for other in bent(item):
            yield value[:place] + (other,) + value[place + 1:]


def is_same(one, other):
    """Equal, an integer standing for a ratio at the left, and of the same classes otherwise."""
    if isinstance(other, tuple):
        return isinstance(one, tuple) and len(one) == len(other) and all(map(is_same, one, other))
    if isinstance(other, Ratio):
        return (isinstance(one, Ratio) or type(one) is int) and one == other
    return type(one) is type(other) and one == other


def plain_road(swap, moment):
    """The road at a moment."""
    nets = plain_sums(swap, range(len(swap)))
    return [net * moment / len(swap) if len(swap) else Fraction(0) for net in nets]


def plain_off(swap):
    """The off lines."""
    road = plain_road(swap, 1)
    return [[one - part for one, part in zip(plain_sums(swap, [number]), road)] for number in range(len(swap))]


def plain_rank(lines):
    """How many lines are no sums of multiples of the others, by elimination."""
    left = [list(told) for told in lines]
    number = 0
    for place in range(len(left[0]) if left else 0):
        pivot = next((at for at in range(number, len(left)) if left[at][place] != 0), None)
        if pivot is not None:
            left[number], left[pivot] = left[pivot], left[number]
            for at in range(number + 1, len(left)):
                times = left[at][place] / left[number][place]
                left[at] = [one - times * other for one, other in zip(left[at], left[number])]
            number += 1
    return number


def by(one, other):
    """A line by another one."""
    return sum((as_fraction(left) * as_fraction(right) for left, right in zip(one, other)), Fraction(0))


def own(swap, name, many, side):
    """The own costs, or the own gains, of a stranger."""
    told = [hand.cost if side == "cost" else hand.gain for hand in swap if name == (hand.giver if side == "cost" else hand.taker)]
    return sum(sorted((as_fraction(one) for one in told), reverse=True)[:many], Fraction(0))


def plain_enough(swap):
    """The enough trusts and the enough pledges."""
    number, many = plain_rank(plain_off(swap)), len(swap)
    trusts, pledges = [], []
    for place, name in enumerate(swap.strangers):
        net = plain_sums(swap, range(many))[place]
        trusts.append(max([0, -net]))
        pledges.append(max([0, -net]))
        for moment in range(1, many):
            road = plain_road(swap, max(0, moment - number))[place]
            trusts[-1] = max(trusts[-1], own(swap, name, number, "cost") - road)
            pledges[-1] = max(pledges[-1], own(swap, name, number, "gain") + road - net)
    return trusts, pledges


def is_rank(swap, number, kept, pulls):
    """Whether this is a rank: kept ones, lines that tell them apart, and all off lines made of them."""
    lines = plain_off(swap)
    if not (len(kept) == len(pulls) == number) or list(kept) != sorted(set(kept)):
        return False
    for place, pull in enumerate(pulls):
        if any(by(pull, lines[one]) != (at == place) for at, one in enumerate(kept)):
            return False
    for told in lines:
        made = [sum(by(pull, told) * lines[one][at] for pull, one in zip(pulls, kept)) for at in range(len(told))]
        if made != told:
            return False
    return True


def are_weights(swap, number, row, weights):
    """Whether these are the weights of a chain."""
    lines, many = plain_off(swap), len(swap)
    if len(weights) != many - number + 1:
        return False
    for told, long in zip(weights, range(many, number - 1, -1)):
        plain = [as_fraction(weight) for weight in told]
        if len(told) != long or sum(plain) != long - number or any(not 0 <= weight <= 1 for weight in plain):
            return False
        for place in range(len(swap.strangers)):
            if sum(weight * lines[one][place] for weight, one in zip(plain, row)) != 0:
                return False
    return True


def random_dial(rnd, names, trusts=True, pledges=True):
    """A dial with some of the bounds of these strangers, some with a weight of 0."""
    halves = []
    for told in (trusts, pledges):
        on = [name for name in names if told and rnd.random() < 0.7]
        halves.append({name: rnd.choice([0, 1, 1, 1, 2, Ratio(1, 2), Ratio(3, 2)]) for name in on})
    return Dial(*halves)


def plain_needs(deal, dials):
    """For each done set what it needs of each dial, as Fractions; sets that are allowed at no numbers are left out."""
    needs = {}
    for done in all_sets(len(deal)):
        told = []
        for dial in dials:
            rest = Dial(
                {pair[0]: 0 for other in dials if other is not dial for pair in other.trust_weights},
                {pair[0]: 0 for other in dials if other is not dial for pair in other.pledge_weights},
            )
            wide = Bounds(
                [None if name in dict(rest.trust_weights) else one for name, one in zip(deal.swap.strangers, deal.bounds.trusts)],
                [None if name in dict(rest.pledge_weights) else one for name, one in zip(deal.swap.strangers, deal.bounds.pledges)],
            )
            told.append(dial.allowed_from(deal.with_bounds(wide), done))
        if None not in told:
            needs[done] = tuple(as_fraction(one) for one in told)
    return needs


def plain_closure(allowed, many, done=()):
    """The sets among these that single moves lead to from a first one, in their order."""
    found = {done} & set(allowed)
    for one in [one for one in all_sets(many) if len(one) > len(done)]:
        behind = [tuple(number for number in one if number != left) for left in one if left not in done]
        if one in allowed and any(other in found for other in behind):
            found.add(one)
    return [one for one in all_sets(many) if one in found]


def plain_tally_allowed(deal, counts, tally):
    """Whether nobody objects to the sums of a tally."""
    nets = plain_sums(deal.swap, range(len(deal)))
    for place, name in enumerate(deal.swap.strangers):
        effects = [as_fraction(hand.effect(name)) * done / count for hand, done, count in zip(deal.swap, tally, counts)]
        total = sum(effects, Fraction(0))
        trust, pledge = deal.bounds.trusts[place], deal.bounds.pledges[place]
        if trust is not None and total < -as_fraction(trust):
            return False
        if pledge is not None and total > nets[place] + as_fraction(pledge):
            return False
    return True


def plain_pieces(deal, counts):
    """The first good piece order, or None, and all reached tallies in their order."""
    tallies = sorted(itertools.product(*[range(count + 1) for count in counts]), key=lambda told: (sum(told), told))
    found = set()
    for tally in tallies:
        behind = [(*tally[:at], tally[at] - 1, *tally[at + 1:]) for at in range(len(tally)) if tally[at] > 0]
        if plain_tally_allowed(deal, counts, tally) and (not any(tally) or any(one in found for one in behind)):
            found.add(tally)
    alive = {tuple(counts)} & found
    for tally in tallies[::-1]:
        further = [(*tally[:at], tally[at] + 1, *tally[at + 1:]) for at in range(len(tally))]
        if tally in found and any(one in alive for one in further):
            alive.add(tally)
    order, tally = [], (0,) * len(counts)
    while alive and tally != tuple(counts):
        further = [(at, (*tally[:at], tally[at] + 1, *tally[at + 1:])) for at in range(len(tally))]
        number, tally = next((at, one) for at, one in further if one in alive)
        order.append(number)
    return (tuple(order) if alive else None), [one for one in tallies if one in found]


def plain_opened(deal):
    """The numbers that open, as they are found."""
    found = []
    while True:
        for number, hand in enumerate(deal.swap):
            giver, taker = deal.swap.strangers.index(hand.giver), deal.swap.strangers.index(hand.taker)
            pledge = deal.bounds.pledges[taker]
            gives = hand.cost == 0 or deal.bounds.trusts[giver] != 0
            takes = hand.gain == 0 or pledge is None or deal.swap.nets[taker] + pledge != 0
            for other in (deal.swap.hands[one] for one in found):
                gives = gives or (other.taker == hand.giver and other.gain.sign > 0)
                takes = takes or (other.giver == hand.taker and other.cost.sign > 0)
            if number not in found and gives and takes:
                found.append(number)
                break
        else:
            return tuple(found)


def is_fine(deal, opening, closing, pieces):
    """Whether these are the parts of a right Fine, told as the document tells it."""
    for pairs in (opening, closing):
        if not isinstance(pairs, tuple) or not all(isinstance(pair, tuple) and len(pair) == 2 for pair in pairs):
            return False
        for number, amount in pairs:
            if type(number) is not int or type(amount) not in (int, Ratio) or not 0 <= number < len(deal):
                return False
    if type(pieces) is not int or pieces < 1:
        return False
    both = [(number, as_fraction(amount)) for number, amount in (*opening, *closing)]
    if any(amount <= 0 or (amount * pieces).denominator != 1 for _, amount in both):
        return False
    if any(sum(amount for one, amount in both if one == number) > 1 for number in range(len(deal))):
        return False
    nets = plain_sums(deal.swap, range(len(deal)))
    effects = [[as_fraction(hand.effect(name)) for name in deal.swap.strangers] for hand in deal.swap]
    points = [[Fraction(0)] * len(nets)]
    for number, amount in both[:len(opening)]:
        points.append([total + amount * effect for total, effect in zip(points[-1], effects[number])])
    behind = len(points) - 1
    points.append(list(nets))
    for number, amount in both[len(opening):]:
        points[-1] = [total - amount * effect for total, effect in zip(points[-1], effects[number])]
    for number, amount in both[len(opening):]:
        points.append([total + amount * effect for total, effect in zip(points[-1], effects[number])])
    rooms = []
    for point in points:
        told = []
        for total, net, trust, pledge in zip(point, nets, deal.bounds.trusts, deal.bounds.pledges):
            ends = [total + as_fraction(trust)] if trust is not None else []
            ends += [net + as_fraction(pledge) - total] if pledge is not None else []
            told.append(min(ends, default=None))
        rooms.append(told)
    if any(room is not None and room < 0 for told in rooms for room in told):
        return False
    for place in range(len(nets)):
        mine = [effect[place] for effect in effects]
        wide = max(mine, default=0) - min(mine, default=0)
        for told in (rooms[behind], rooms[behind + 1]):
            if told[place] is not None and len(nets) * wide > pieces * told[place]:
                return False
    return True
