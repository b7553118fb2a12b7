"""Chains, their rows, and where these stay."""

import random
import unittest

from lastgiver.bounds import Bounds
from lastgiver.chains import Chain, enough, finish
from lastgiver.check_rows import shows_good
from lastgiver.deals import Deal
from lastgiver.errors import BadDone, BadSwap, NoHand, TooMany, Twice
from lastgiver.ratios import Ratio
from lastgiver.roads import Rank, chest, enough_bounds, from_here, rank
from lastgiver.rows import Good
from lastgiver.swaps import HandOver, Swap
from lastgiver.turned import portion
from lastgiver.turned_deals import rest_deal

from support import (
    CUP, NO_DONE, NO_HANDS, NO_SWAPS, Case, all_sets, are_weights, as_fraction, is_rank, own, plain_objections,
    plain_off, plain_rank, plain_road, plain_sums, random_ratio, random_swap,
)

NAMES = ("ann", "bob", "cay", "dan", "eve", "fay")


def swaps(seed, times, most=9, strangers=(2, 3, 4, 6)):
    """Some swaps, with losers in some."""
    rnd = random.Random(seed)
    for _ in range(times):
        yield random_swap(rnd, rnd.choice(strangers), rnd.randrange(most), rnd.random() < 0.5)


class ChainTest(Case):
    def check_chain(self, swap, found):
        """The paper is a chain of the swap."""
        self.assertIs(Chain, type(found))
        self.assertEqual(rank(swap), found.rank)
        self.assertTrue(is_rank(swap, *found.rank.parts))
        self.assertEqual(list(range(len(swap))), sorted(found.row))
        self.assertTrue(are_weights(swap, found.rank.number, found.row, found.weights))

    def test_wrong_values(self):
        self.check_each_raises(BadSwap("swap"), NO_SWAPS, lambda value: enough(swap=value))
        self.check_each_raises(BadSwap("swap"), NO_SWAPS, lambda value: finish(value, None))
        self.check_each_raises(BadDone("done"), NO_DONE, lambda value: finish(CUP, value))
        self.check_raises(NoHand(2), finish, swap=CUP, done=[0, 0, 2])
        self.check_raises(Twice(0), finish, CUP, [0, 1, 0])

    def test_20_hand_overs_and_21(self):
        more = Swap(CUP.strangers, [CUP[0]] * 21)
        self.check_raises(TooMany("hands", 20), enough, more)
        self.check_raises(TooMany("hands", 20), enough, Swap(CUP.strangers, CUP.hands * 20))
        self.check_raises(TooMany("hands", 20), finish, more, [])
        self.check_raises(TooMany("hands", 20), finish, Swap(CUP.strangers, CUP.hands * 20), list(range(19)))
        self.check_chain(Swap(CUP.strangers, CUP.hands * 10), enough(Swap(CUP.strangers, CUP.hands * 10)))
        self.assertEqual(set(range(21)) - {7}, set(finish(more, [7])))
        self.assertEqual(set(range(20, 40)), set(finish(Swap(CUP.strangers, CUP.hands * 20), list(range(20)))))

    def test_no_hand_over_and_one(self):
        self.check_same(((), ((),)), enough(NO_HANDS).parts[1:])
        self.assertEqual(Rank(0, (), ()), enough(NO_HANDS).rank)
        self.check_same(((0,), ((Ratio(1),), ())), enough(portion(CUP, [1])).parts[1:])
        self.check_same(((), ()), (finish(NO_HANDS, []), finish(CUP, [1, 0])))

    def test_classes(self):
        found = enough(CUP)
        self.assertTrue(found)
        self.assertEqual("chain", found.word)
        self.assertEqual({Ratio}, {type(one) for told in found.weights for one in told})
        self.assertEqual((3, (), None), Chain(weights=None, rank=3, row=[]).parts)

    def test_each_swap_has_a_chain(self):
        for swap in swaps(311, 150):
            self.check_chain(swap, enough(swap))
            self.assertEqual(enough(swap), enough(Swap(swap.strangers, swap.hands)))

    def test_chains_of_20_hand_overs_and_six_strangers(self):
        rnd = random.Random(312)
        for price in (lambda: rnd.randrange(4), lambda: rnd.randrange(1000), lambda: random_ratio(rnd, 9)):
            for strangers in (2, 3, 6):
                names = NAMES[:strangers]
                swap = Swap(names, [HandOver(*rnd.sample(names, 2), price(), price()) for _ in range(20)])
                self.check_chain(swap, enough(swap))
        self.check_chain(Swap.ring(*NAMES), enough(Swap.ring(*NAMES)))

    def test_finish_is_the_row_of_what_is_left(self):
        rnd = random.Random(313)
        for swap in swaps(314, 60, 7):
            done = rnd.choice(all_sets(len(swap)))
            left = [number for number in range(len(swap)) if number not in done]
            row = enough(portion(swap, left)).row
            self.check_same(tuple(left[number] for number in row), finish(swap, list(done)))


class FactsTest(Case):
    def test_the_row_stays_by_the_road(self):
        for swap in swaps(321, 100):
            found = enough(swap)
            number = found.rank.number
            for moment in range(len(swap) + 1):
                road = plain_road(swap, max(0, moment - number))
                for total, near, name in zip(plain_sums(swap, found.row[:moment]), road, swap.strangers):
                    self.assertGreaterEqual(total, near - own(swap, name, number, "cost"))
                    self.assertLessEqual(total, near + own(swap, name, number, "gain"))

    def test_enough_bounds_make_the_row_good(self):
        for swap in swaps(322, 100):
            deal = Deal(swap, enough_bounds(swap))
            self.assertTrue(shows_good(deal, Good(enough(swap).row)))

    def test_from_here_makes_the_row_behind_a_done_set_good(self):
        rnd = random.Random(323)
        for swap in swaps(324, 100, 8):
            done = rnd.choice(all_sets(len(swap)))
            deal = Deal(swap, from_here(swap, done))
            row = finish(swap, done)
            for moment in range(len(row) + 1):
                self.assertEqual([], plain_objections(deal, [*done, *row[:moment]]))

    def test_nothing_more_than_the_chest_is_lent_or_above(self):
        rnd = random.Random(325)
        for swap in swaps(326, 120, 8):
            done = rnd.choice(all_sets(len(swap)))
            row = finish(swap, done)
            lent, above = (as_fraction(one) for one in chest(swap, done))
            nets = plain_sums(swap, range(len(swap)))
            for moment in range(len(row) + 1):
                totals = plain_sums(swap, [*done, *row[:moment]])
                self.assertLessEqual(sum(-min(0, total) for total in totals), lent)
                self.assertLessEqual(sum(max(0, total - net) for total, net in zip(totals, nets)), above)

    def test_a_row_ends_the_swap_with_bounds_greater_by_what_is_left(self):
        rnd = random.Random(327)
        tried = 0
        for swap in swaps(328, 200, 7):
            done = rnd.choice(all_sets(len(swap)))
            bounds = Bounds([random_ratio(rnd, 9) for _ in swap.strangers], [random_ratio(rnd, 9) for _ in swap.strangers])
            deal = Deal(swap, bounds)
            if deal.is_allowed(done) and deal.is_allowed(list(range(len(swap)))):
                tried += 1
                left = portion(swap, [number for number in range(len(swap)) if number not in done])
                number = plain_rank(plain_off(left))
                trusts = [one + Ratio(*own(left, name, number, "cost").as_integer_ratio()) for one, name in zip(bounds.trusts, swap.strangers)]
                pledges = [one + Ratio(*own(left, name, number, "gain").as_integer_ratio()) for one, name in zip(bounds.pledges, swap.strangers)]
                wider = Deal(swap, Bounds(trusts, pledges))
                row = finish(swap, done)
                numbers = [number for number in range(len(swap)) if number not in done]
                self.assertTrue(shows_good(rest_deal(wider, done), Good([numbers.index(number) for number in row])))
        self.assertGreater(tried, 20)


if __name__ == "__main__":
    unittest.main()
