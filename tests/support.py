"""What the tests share: wrong values, a test case that reads errors, and plain answers by trying all."""

import itertools
import random
import unittest
from fractions import Fraction

from lastgiver.bounds import Bounds
from lastgiver.deals import Deal
from lastgiver.errors import LastError
from lastgiver.ratios import Ratio
from lastgiver.swaps import HandOver, Swap

CUP = Swap(("ann", "bob"), [HandOver("ann", "bob", 2, 3), HandOver("bob", "ann", 2, 3)])
NO_HANDS = Swap(("ann", "bob"), [])
ODD = [None, True, False, 1.5, float("nan"), "", "ann bob", b"ann", {}, {1: 2}, set(), object(), int, len]
NO_NUMBERS = [*ODD, "1", [], (), [1], Ratio(1, 2), Ratio(1)]
NO_RATIOS = [*ODD, "1", [], (), [1]]
NO_AMOUNTS = [*NO_RATIOS, -1, Ratio(-1, 2)]
NO_NAMES = [*ODD, "Ann", "1a", "a-b", "a b", "abcdefghijklm", "\u00e4", "a\u0661", "a\n", " a", ["ann"], 3]
NO_LISTS = [*ODD, "1", 3, Ratio(1), CUP]
NO_DONE = [*NO_LISTS, [True], [0, None], ["0"], (Ratio(0),), [[0]], [1.0], [0, 0.0]]
NO_DEALS = [*ODD, CUP, Bounds.zero(2), [], 3, str(CUP)]


class Case(unittest.TestCase):
    """A test case that reads the fields of errors."""

    def check_raises(self, expected, work, *told, **more):
        """The call raises an error of just this class, with just these fields, ratios as Ratios."""
        with self.assertRaises(LastError) as caught:
            work(*told, **more)
        self.assertIs(type(expected), type(caught.exception), (work, told, caught.exception))
        self.check_same(vars(expected), vars(caught.exception))

    def check_each_raises(self, expected, values, work):
        """The function raises this error for each of the values."""
        for value in values:
            self.check_raises(expected, work, value)

    def check_same(self, expected, found):
        """Equal, and of the same classes all the way in."""
        self.assertIs(type(expected), type(found), (expected, found))
        if isinstance(expected, (list, tuple)):
            self.assertEqual(len(expected), len(found), (expected, found))
            for one, other in zip(expected, found):
                self.check_same(one, other)
        elif isinstance(expected, dict):
            self.check_same(sorted(expected), sorted(found))
            for key in expected:
                self.check_same(expected[key], found[key])
        elif expected == expected:
            self.assertEqual(expected, found)

    def check_equality(self, made, others):
        """What made() gives twice is equal; unlike others and values of other classes."""
        self.assertTrue(made() == made())
        self.assertFalse(made() != made())
        for other in [*others, *ODD, [], 3, str(made())]:
            self.assertFalse(made() == other, other)
            self.assertTrue(made() != other, other)

    def check_read(self, kind, text):
        """The class reads the text, and writes it again."""
        value = kind.read(text)
        self.assertIs(kind, type(value))
        self.assertEqual(text, str(value))
        self.assertEqual(value, kind.read(text=text))


def line(*ratios):
    """A line, as it is returned."""
    return tuple(Ratio.of(ratio) for ratio in ratios)


def as_fraction(ratio):
    """A Fraction of a ratio."""
    return Fraction(ratio.top, ratio.bottom) if isinstance(ratio, Ratio) else Fraction(ratio)


def all_sets(many):
    """All done sets, in their order."""
    return [done for size in range(many + 1) for done in itertools.combinations(range(many), size)]


def plain_sums(swap, done):
    """The sums at a done set, as Fractions."""
    totals = dict.fromkeys(swap.strangers, Fraction(0))
    for number in done:
        hand = swap.hands[number]
        totals[hand.giver] -= as_fraction(hand.cost)
        totals[hand.taker] += as_fraction(hand.gain)
    return [totals[name] for name in swap.strangers]


def plain_objections(deal, done):
    """Triples of the objections at a done set."""
    found = []
    nets = plain_sums(deal.swap, range(len(deal.swap.hands)))
    for place, total in enumerate(plain_sums(deal.swap, done)):
        trust, pledge = deal.bounds.trusts[place], deal.bounds.pledges[place]
        name = deal.swap.strangers[place]
        if trust is not None and -as_fraction(trust) - total > 0:
            found.append((name, "drawn", -as_fraction(trust) - total))
        if pledge is not None and total - nets[place] - as_fraction(pledge) > 0:
            found.append((name, "leaves", total - nets[place] - as_fraction(pledge)))
    return found


def plain_broken(deal, done):
    """The leanings that a done set breaks."""
    return [(one, other) for one, other in deal.leanings.pairs if other in done and one not in done]


def plain_allowed(deal, done):
    """Whether a done set is allowed."""
    return not plain_broken(deal, done) and not plain_objections(deal, done)


def plain_good(deal, row):
    """Whether a row is good."""
    return all(plain_allowed(deal, row[:moment]) for moment in range(len(row) + 1))


def plain_good_rows(deal):
    """All good rows, by trying all orders."""
    allowed = {done for done in all_sets(len(deal)) if plain_allowed(deal, done)}
    rows = itertools.permutations(range(len(deal)))
    return [row for row in rows if all(tuple(sorted(row[:k])) in allowed for k in range(len(row) + 1))]


def plain_reached(deal):
    """All reached sets, in their order."""
    found = set()
    for done in all_sets(len(deal)):
        behind = [tuple(number for number in done if number != left) for left in done]
        if plain_allowed(deal, done) and (not done or any(one in found for one in behind)):
            found.add(done)
    return [done for done in all_sets(len(deal)) if done in found]


def plain_live(deal):
    """All live sets, in their order, by all good rows."""
    found = {tuple(sorted(row[:k])) for row in plain_good_rows(deal) for k in range(len(row) + 1)}
    return [done for done in all_sets(len(deal)) if done in found]


def random_ratio(rnd, most=4):
    """A ratio from 0 on, often whole."""
    return Ratio(rnd.randrange(most + 1), rnd.choice([1, 1, 1, 2, 3]))


def random_swap(rnd, strangers, hands, gainful=False):
    """A swap with some like hand-overs in it."""
    names = ["ann", "bob", "cay", "dan", "eve", "fay"][:strangers]
    told = []
    for _ in range(hands):
        if told and rnd.random() < 0.3:
            told.append(rnd.choice(told))
        else:
            giver, taker = rnd.sample(names, 2)
            told.append(HandOver(giver, taker, random_ratio(rnd), random_ratio(rnd) + (2 if gainful else 0)))
    return Swap(names, told)


def random_bound(rnd, most=4):
    """A bound, sometimes wide."""
    return None if rnd.random() < 0.15 else random_ratio(rnd, most)


def random_pairs(rnd, hands, many):
    """Some leanings without a ring."""
    order = list(range(hands))
    rnd.shuffle(order)
    pairs = list(itertools.combinations(order, 2))
    return rnd.sample(pairs, min(many, len(pairs)))


def random_deal(rnd, strangers, hands, leanings=0, most=4):
    """A deal with bounds of which some bar something."""
    swap = random_swap(rnd, strangers, hands)
    trusts = [random_bound(rnd, most) for _ in swap.strangers]
    pledges = [random_bound(rnd, most) for _ in swap.strangers]
    return Deal(swap, Bounds(trusts, pledges), random_pairs(rnd, hands, leanings))


def random_deals(seed, times, hands=5, leanings=True):
    """A list of deals, some of which have good rows."""
    rnd = random.Random(seed)
    told = []
    for _ in range(times):
        many = rnd.choice([0, 1, 2, 3]) if leanings and rnd.random() < 0.6 else 0
        told.append(random_deal(rnd, rnd.choice([2, 2, 3, 4]), rnd.randrange(hands + 1), many, rnd.choice([2, 4, 8])))
    return told
