"""Off lines, ranks, bounds that are enough, and the chest."""

import itertools
import random
import unittest
from fractions import Fraction

from lastgiver.bounds import Bounds
from lastgiver.deals import Deal
from lastgiver.errors import BadDone, BadSwap, NoHand, Twice
from lastgiver.ratios import Ratio
from lastgiver.roads import Rank, chest, enough_bounds, from_here, off, rank
from lastgiver.swaps import HandOver, Swap
from lastgiver.turned import portion, scaled

from support import (
    CUP, NO_DONE, NO_HANDS, NO_SWAPS, Case, all_sets, as_fraction, is_rank, line, own, plain_enough, plain_off,
    plain_rank, plain_sums, random_swap,
)

RING = Swap.read("a b c | a b 1 2 | b c 1 2 | c a 1 2")
GIFT = Swap.read("ann bob | ann bob 2 3")


def as_ratio(fraction):
    """The Ratio of a Fraction."""
    return Ratio(Fraction(fraction).numerator, Fraction(fraction).denominator)


def random_swaps(seed, times, most=7):
    """Some swaps, with all kinds of nets."""
    rnd = random.Random(seed)
    for _ in range(times):
        yield random_swap(rnd, rnd.choice([2, 3, 4, 6]), rnd.randrange(most), rnd.random() < 0.5)


def left_of(swap, done):
    """What is left behind a done set, as a swap."""
    return portion(swap, [number for number in range(len(swap)) if number not in done])


def plain_chest(swap, done):
    """The chest, as Fractions."""
    left = left_of(swap, done)
    number = plain_rank(plain_off(left))
    nets, sums = plain_sums(swap, range(len(swap))), plain_sums(swap, done)
    lent = max(sum(-min(0, one) for one in sums), sum(-min(0, one) for one in nets))
    above = sum(max(0, one - net) for one, net in zip(sums, nets))
    costs = sorted((as_fraction(hand.cost) for hand in left), reverse=True)[:number]
    gains = sorted((as_fraction(hand.gain) for hand in left), reverse=True)[:number]
    return lent + sum(costs), above + sum(gains)


class RoadsTest(Case):
    def test_wrong_values(self):
        for work in (off, rank, enough_bounds):
            self.check_each_raises(BadSwap("swap"), NO_SWAPS, lambda value: work(swap=value))
        for work in (from_here, chest):
            self.check_each_raises(BadSwap("swap"), NO_SWAPS, lambda value: work(value, None))
            self.check_each_raises(BadDone("done"), NO_DONE, lambda value: work(CUP, value))
            self.check_raises(NoHand(2), work, CUP, [0, 0, 2, -1])
            self.check_raises(NoHand(-1), work, swap=CUP, done=[-1])
            self.check_raises(Twice(1), work, CUP, [0, 1, 1, 0])

    def test_no_hand_over_and_one(self):
        self.check_same(((), (0, (), ())), (off(NO_HANDS), rank(NO_HANDS).parts))
        self.assertEqual(Bounds.zero(2), enough_bounds(NO_HANDS))
        self.assertEqual(Bounds.zero(2), from_here(NO_HANDS, []))
        self.check_same((Ratio(0), Ratio(0)), chest(NO_HANDS))
        self.check_same(((line(0, 0),), (0, (), ())), (off(GIFT), rank(GIFT).parts))
        self.assertEqual(Bounds([2, 0], [2, 0]), enough_bounds(GIFT))
        self.check_same((Ratio(2), Ratio(2)), chest(GIFT))

    def test_classes(self):
        found = rank(CUP)
        self.assertIs(Rank, type(found))
        self.assertTrue(found)
        self.check_same(("rank", 1, (0,)), (found.word, found.number, found.kept))
        self.assertEqual({Ratio}, {type(one) for told in (*found.pulls, *off(CUP)) for one in told})
        self.assertEqual((1, (0,), ((5, None),)), Rank(kept=[0], pulls=[[5, None]], number=1).parts)
        bounds = enough_bounds(CUP)
        self.assertEqual({Ratio}, {type(one) for one in (*bounds.trusts, *bounds.pledges, *chest(CUP, [1]))})

    def test_off_lines_by_adding_up(self):
        for swap in random_swaps(301, 60):
            self.check_same(tuple(tuple(as_ratio(one) for one in told) for told in plain_off(swap)), off(swap))

    def test_ranks_by_elimination(self):
        numbers = set()
        for swap in random_swaps(302, 150):
            found, lines = rank(swap), plain_off(swap)
            numbers.add((found.number, len(swap.strangers)))
            self.assertEqual(plain_rank(lines), found.number)
            self.assertTrue(is_rank(swap, *found.parts))
            kept = [number for number in range(len(swap)) if plain_rank(lines[:number]) < plain_rank(lines[:number + 1])]
            self.check_same(tuple(kept), found.kept)
            self.assertLessEqual(found.number, len(swap.strangers))
            self.assertTrue(found.number < len(swap) or len(swap) == 0)
            self.assertEqual(found, rank(Swap(swap.strangers, swap.hands)))
        self.assertIn((2, 2), numbers)
        self.assertIn((4, 4), numbers)

    def test_a_rank_of_0_and_one_as_great_as_the_strangers(self):
        alike = Swap(CUP.strangers, [CUP[0]] * 5)
        self.check_same((0, (), ()), rank(alike).parts)
        wide = Swap.read("a b c | a b 1 2 | b c 3 1 | c a 5 1 | a c 2 7 | b a 1 1")
        self.assertEqual(3, rank(wide).number)
        zeros = Swap(CUP.strangers, [HandOver("ann", "bob", 0, 0)] * 3)
        self.check_same((0, (), ()), rank(zeros).parts)

    def test_enough_bounds_by_each_moment(self):
        for swap in random_swaps(303, 120):
            trusts, pledges = plain_enough(swap)
            found = enough_bounds(swap)
            self.assertEqual(Bounds([as_ratio(one) for one in trusts], [as_ratio(one) for one in pledges]), found)
            number = rank(swap).number
            for place, name in enumerate(swap.strangers):
                if number > 0 and swap.nets[place].sign >= 0:
                    self.assertEqual(own(swap, name, number, "cost"), as_fraction(found.trusts[place]))

    def test_a_net_below_0(self):
        swap = Swap.read("a b | a b 3 1 | b a 1 1 | a b 3 1")
        trusts, pledges = plain_enough(swap)
        self.assertEqual((Fraction(5), Fraction(5)), (trusts[0], pledges[0] - 1))
        self.assertEqual(Bounds([as_ratio(one) for one in trusts], [as_ratio(one) for one in pledges]), enough_bounds(swap))

    def test_enough_trust_does_not_grow_with_the_hand_overs(self):
        for many in (1, 2, 20):
            self.assertEqual(Bounds.alike(2, 2, 2), enough_bounds(Swap(CUP.strangers, CUP.hands * many)))

    def test_from_here_by_what_is_left(self):
        rnd = random.Random(304)
        for swap in random_swaps(305, 80, 6):
            for done in rnd.sample(all_sets(len(swap)), min(6, 2 ** len(swap))):
                trusts, pledges = plain_enough(left_of(swap, done))
                trusts = [max(0, trust - total) for trust, total in zip(trusts, plain_sums(swap, done))]
                expected = Bounds([as_ratio(one) for one in trusts], [as_ratio(one) for one in pledges])
                self.assertEqual(expected, from_here(swap, rnd.sample(done, len(done))))
        self.assertEqual(Bounds([0, 1], [0, 0]), from_here(Swap.read("a b | a b 1 2 | b a 3 4"), [1, 0]) | Bounds([0, 1], [0, 0]))

    def test_the_chest_by_what_is_left(self):
        rnd = random.Random(306)
        for swap in random_swaps(307, 80, 6):
            for done in rnd.sample(all_sets(len(swap)), min(6, 2 ** len(swap))):
                self.assertEqual(plain_chest(swap, done), tuple(as_fraction(one) for one in chest(swap, list(done)[::-1])))
            self.assertEqual(chest(swap, ()), chest(swap))

    def test_a_done_set_that_is_all(self):
        self.assertEqual(Bounds.zero(3), from_here(RING, [2, 0, 1]))
        self.check_same((Ratio(0), Ratio(0)), chest(RING, [0, 1, 2]))
        losing = Swap.read("a b | a b 5 1")
        self.assertEqual(Bounds([5, 0], [0, 0]), from_here(losing, [0]))
        self.check_same((Ratio(5), Ratio(0)), chest(losing, [0]))

    def test_scaled_swaps(self):
        for swap in random_swaps(308, 20):
            twice = scaled(swap, Ratio(3, 2))
            self.assertEqual(rank(swap).kept, rank(twice).kept)
            self.assertEqual([one * Ratio(3, 2) for one in enough_bounds(swap).trusts], list(enough_bounds(twice).trusts))

    def test_enough_bounds_have_a_good_row(self):
        tried = 0
        for swap in random_swaps(309, 60, 6):
            deal = Deal(swap, enough_bounds(swap))
            rows = itertools.permutations(range(len(swap)))
            allowed = {done: deal.is_allowed(done) for done in all_sets(len(swap))}
            self.assertTrue(any(all(allowed[tuple(sorted(row[:k]))] for k in range(len(row) + 1)) for row in rows))
            tried += 1
        self.assertEqual(60, tried)


if __name__ == "__main__":
    unittest.main()
