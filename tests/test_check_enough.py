"""Papers about ranks, chains and the filling, right ones and ones bent at each place."""

import random
import unittest

from lastgiver.bounds import Bounds
from lastgiver.chains import Chain, enough
from lastgiver.check_enough import shows_enough, shows_filled, shows_rank
from lastgiver.deals import Deal
from lastgiver.errors import BadDeal, BadSwap, Leans, NotEven, NotTwo
from lastgiver.even import Filled, Halted, Outside, filled, hardest
from lastgiver.papers import Denial, Paper
from lastgiver.ratios import Ratio
from lastgiver.roads import Rank, rank
from lastgiver.rows import Good
from lastgiver.swaps import HandOver, Swap

from support import (
    CUP, NO_DEALS, NO_HANDS, NO_SWAPS, ODD, Case, are_weights, bent, is_rank, loosened, random_bound, random_ratio,
    random_swap,
)

LOADS = Swap.read("ann bob | ann bob 1 1 | ann bob 1 1 | bob ann 2 2")
NO_PAPERS = [*ODD, 3, [], (), (0, (), ()), Good(()), Paper("rank", 0, (), ()), Denial("halted", ()), CUP]


def is_ratio_line(value, many):
    """Whether a value is a tuple of so many ratios."""
    return isinstance(value, tuple) and len(value) == many and all(isinstance(one, Ratio) or type(one) is int for one in value)


def is_right_rank(swap, parts):
    """Whether these are the parts of a right Rank."""
    if not isinstance(parts, tuple) or len(parts) != 3:
        return False
    number, kept, pulls = parts
    if type(number) is not int or not isinstance(kept, tuple) or not isinstance(pulls, tuple):
        return False
    if not all(type(one) is int and 0 <= one < len(swap) for one in kept):
        return False
    return all(is_ratio_line(pull, len(swap.strangers)) for pull in pulls) and is_rank(swap, number, kept, pulls)


def is_right_chain(swap, row, weights, number):
    """Whether these are a row and the weights of a chain."""
    if not isinstance(row, tuple) or not all(type(one) is int for one in row) or sorted(row) != list(range(len(swap))):
        return False
    if not isinstance(weights, tuple) or not all(isinstance(told, tuple) and is_ratio_line(told, len(told)) for told in weights):
        return False
    return are_weights(swap, number, row, weights)


class RankTest(Case):
    def test_wrong_values(self):
        self.check_each_raises(BadSwap("swap"), NO_SWAPS, lambda value: shows_rank(value, Rank(0, (), ())))
        self.check_each_raises(BadSwap("swap"), NO_SWAPS, lambda value: shows_enough(swap=value, value=None))
        for value in NO_PAPERS:
            self.assertIs(False, shows_rank(CUP, value))
            self.assertIs(False, shows_enough(CUP, value))

    def test_right_papers(self):
        rnd = random.Random(401)
        for _ in range(80):
            swap = random_swap(rnd, rnd.choice([2, 3, 4, 6]), rnd.randrange(8))
            found = rank(swap)
            self.assertIs(True, shows_rank(swap, found))
            self.assertIs(True, shows_rank(swap=swap, value=Rank(*loosened(found.parts))))
        self.assertIs(True, shows_rank(NO_HANDS, Rank(0, [], [])))

    def test_others_may_be_kept_and_other_lines_told(self):
        ring = Swap.read("a b c | a b 1 2 | b c 1 2 | c a 1 2")
        turned = rank(Swap(ring.strangers, ring.hands[::-1]))
        self.assertEqual((0, 1), turned.kept)
        self.assertIs(True, shows_rank(ring, Rank(2, (1, 2), turned.pulls[::-1])))
        pull = Ratio(1, 2) - Ratio(7, 10)
        self.assertIs(True, shows_rank(CUP, Rank(1, [0], [[pull, Ratio(1, 5)]])))
        self.assertIs(True, shows_rank(CUP, Rank(1, [1], [[0, Ratio(-2, 5)]])))
        self.assertIs(False, shows_rank(CUP, Rank(1, [1], [[0, Ratio(2, 5)]])))

    def test_bent_papers(self):
        for swap in (CUP, Swap.read("a b c | a b 1 2 | b c 1/2 2 | c a 1 2 | a c 0 1"), Swap.read("a b | a b 2 3")):
            bends, right = 0, 0
            for parts in bent(rank(swap).parts):
                if isinstance(parts, tuple) and len(parts) == 3:
                    expected = is_right_rank(swap, parts)
                    bends += 1
                    right += expected
                    self.assertIs(expected, shows_rank(swap, Rank(*parts)), parts)
            self.assertGreater(bends, 10)
            self.assertLess(right * 4, bends)

    def test_kept_ones_too_few_or_too_many(self):
        swap = Swap.read("a b c | a b 1 2 | b c 1 2 | c a 1 2")
        found = rank(swap)
        self.assertIs(False, shows_rank(swap, Rank(1, found.kept[:1], found.pulls[:1])))
        self.assertIs(False, shows_rank(swap, Rank(3, (0, 1, 2), (*found.pulls, (0, 0, 0)))))
        self.assertIs(False, shows_rank(swap, Rank(2, found.kept[::-1], found.pulls[::-1])))
        self.assertIs(False, shows_rank(swap, Rank(2, (0, 0), found.pulls)))
        self.assertIs(False, shows_rank(swap, Rank(2, (0, 3), found.pulls)))
        self.assertIs(False, shows_rank(swap, Rank(2, (-1, 1), found.pulls)))
        self.assertIs(False, shows_rank(CUP, Rank(1, [-1], [[0, Ratio(-2, 5)]])))

    def test_40_hand_overs(self):
        rnd = random.Random(402)
        swap = random_swap(rnd, 6, 40)
        self.assertIs(True, shows_rank(swap, rank(swap)))


class ChainTest(Case):
    def test_right_papers(self):
        rnd = random.Random(403)
        for _ in range(80):
            swap = random_swap(rnd, rnd.choice([2, 3, 4, 6]), rnd.randrange(9))
            found = enough(swap)
            self.assertIs(True, shows_enough(swap, found))
            self.assertIs(True, shows_enough(swap=swap, value=Chain(found.rank, *loosened(found.parts[1:]))))

    def test_a_chain_of_another_rank(self):
        found = enough(CUP)
        self.assertIs(True, shows_enough(CUP, Chain(Rank(1, [1], [[0, Ratio(-2, 5)]]), found.row, found.weights)))
        for other in (Rank(1, [1], [[0, Ratio(2, 5)]]), Rank(0, [], []), None, 1, found.rank.parts, Paper("rank", *found.rank.parts)):
            self.assertIs(False, shows_enough(CUP, Chain(other, found.row, found.weights)))

    def test_bent_papers(self):
        for swap in (CUP, LOADS, Swap.read("a b c | a b 1 2 | b c 1 2 | c a 1 2 | b a 3 1")):
            found = enough(swap)
            bends, right = 0, 0
            for parts in bent(found.parts[1:]):
                if isinstance(parts, tuple) and len(parts) == 2:
                    expected = is_right_chain(swap, *parts, found.rank.number)
                    bends += 1
                    right += expected
                    self.assertIs(expected, shows_enough(swap, Chain(found.rank, *parts)), parts)
            self.assertGreater(bends, 60)
            self.assertLess(right * 4, bends)

    def test_weights_that_add_up_but_not_to_0(self):
        gifts = Swap(CUP.strangers, [CUP[0], CUP[0], CUP[1]])
        found = enough(gifts)
        self.assertEqual(1, found.rank.number)
        self.assertIs(True, shows_enough(gifts, found))
        self.assertIs(False, shows_enough(gifts, Chain(found.rank, (0, 1, 2), [[Ratio(2, 3)] * 3, [Ratio(1, 2)] * 2, [0]])))
        self.assertIs(False, shows_enough(gifts, Chain(found.rank, (0, 2, 1), [[1, 1, 0], [Ratio(1, 2)] * 2, [0]])))

    def test_weights_of_another_sum_or_beyond_0_and_1(self):
        found = enough(CUP)
        for weights, right in [
            ([[Ratio(1, 2)] * 2, [0]], True), ([[Ratio(1, 4)] * 2, [0]], False), ([[1, 1], [0]], False), ([[0, 0], [0]], False),
            ([[Ratio(1, 2)] * 2, [1]], False),
        ]:
            self.assertIs(right, shows_enough(CUP, Chain(found.rank, found.row, weights)))
        alike = Swap(CUP.strangers, [CUP[0]] * 3)
        for first, right in [((1, 1, 1), True), ((2, 1, 0), False), ((2, 2, -1), False), ((Ratio(1, 2), Ratio(3, 2), 1), False)]:
            self.assertIs(right, shows_enough(alike, Chain(Rank(0, (), ()), (0, 1, 2), [first, (1, 1), (1,), ()])))

    def test_40_hand_overs(self):
        # No size is refused: all are alike, so the rank is 0, and all weights are 1.
        swap = Swap(CUP.strangers, [CUP[0]] * 40)
        chain = Chain(Rank(0, (), ()), list(range(40)), [[1] * k for k in range(40, -1, -1)])
        self.assertIs(True, shows_enough(swap, chain))
        self.assertIs(False, shows_enough(swap, Chain(chain.rank, chain.row, chain.weights[:-1])))


class FilledTest(Case):
    def test_wrong_values(self):
        self.check_each_raises(BadDeal("deal"), NO_DEALS, lambda value: shows_filled(value, None))
        three = Swap.read("a b c | a b 1 2")
        self.check_raises(NotTwo(3), shows_filled, deal=Deal(three, Bounds.zero(3)), value=None)
        self.check_raises(NotEven(0), shows_filled, Deal(CUP, Bounds.zero(2), [(1, 0)]), None)
        self.check_raises(Leans(1, 0), shows_filled, Deal(LOADS, Bounds.zero(2), [(1, 0), (1, 2)]), None)
        for value in NO_PAPERS:
            self.assertIs(False, shows_filled(Deal(LOADS, Bounds.alike(2, 1, 1)), value))

    def test_any_row_within_the_lane(self):
        deal = Deal(LOADS, Bounds.alike(2, 1, 1))
        self.assertIs(True, shows_filled(deal, Filled([0, 2, 1])))
        self.assertIs(True, shows_filled(deal, Filled((1, 2, 0))))
        for row in [(0, 1, 2), (2, 0, 1), (0, 2), (0, 2, 2), (0, 2, 1, 1), (), (False, 2, True), (0, Ratio(2), 1), None, 3, "021"]:
            self.assertIs(False, shows_filled(deal, Filled(row)), row)
        for value in (Halted(()), Halted((0,)), Outside(0), Outside(3)):
            self.assertIs(False, shows_filled(deal, value))

    def test_denials(self):
        deal = Deal(hardest(2, 3), Bounds([0, 3], [3, 0]))
        self.assertIs(True, shows_filled(deal, Halted([0, 2])))
        for row in [(0, 3), (1, 2), (0,), (), (0, 2, 4), (2, 0), (False, 2), (0, Ratio(2)), None]:
            self.assertIs(False, shows_filled(deal, Halted(row)), row)
        out = Deal(Swap.read("a b | b a 3 3"), Bounds([0, 2], [None, None]))
        self.assertIs(True, shows_filled(deal=out, value=Outside(1)))
        for moment in (0, True, Ratio(1), 1.0, None, 2, (1,)):
            self.assertIs(False, shows_filled(out, Outside(moment)), moment)
        self.assertIs(False, shows_filled(out, Halted(1)))
        self.assertIs(False, shows_filled(deal, Outside([0, 2])))
        self.assertIs(False, shows_filled(out, Halted(())))
        self.assertIs(False, shows_filled(out, Filled((0,))))

    def test_right_papers(self):
        rnd = random.Random(404)
        for _ in range(200):
            hands = []
            for _ in range(rnd.randrange(7)):
                worth = random_ratio(rnd)
                hands.append(HandOver(*rnd.sample(["ann", "bob"], 2), worth, worth))
            swap = Swap(["ann", "bob"], hands)
            deal = Deal(swap, Bounds([random_bound(rnd), random_bound(rnd)], [random_bound(rnd), random_bound(rnd)]))
            found = filled(deal)
            self.assertIs(True, shows_filled(deal, found))
            row = rnd.sample(range(len(swap)), len(swap))
            inside = all(deal.is_allowed(row[:k]) for k in range(len(row) + 1))
            self.assertIs(inside, shows_filled(deal, Filled(row)))


if __name__ == "__main__":
    unittest.main()
