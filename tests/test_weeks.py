"""Weekly deals."""

import random
import unittest

from lastgiver.bounds import Bounds
from lastgiver.deals import Deal
from lastgiver.errors import BadDeal, BadShare, BadSwap, Loser
from lastgiver.ratios import Ratio
from lastgiver.rows import Good
from lastgiver.check_rows import shows_good
from lastgiver.swaps import Swap
from lastgiver.weeks import forever, weekly

from support import (
    CUP, NO_DEALS, NO_HANDS, NO_SHARES, NO_SWAPS, Case, all_sets, as_fraction, line, plain_good_rows, plain_objections,
    plain_sums, random_bound, random_pairs, random_swap,
)

BARE = Deal(CUP, Bounds.zero(2))
LOSING = Swap.read("a b c | a b 1 5 | b c 4 1 | a c 1 0")


def gainful_deal(rnd, most=5):
    """A deal of a gainful swap."""
    while True:
        swap = random_swap(rnd, rnd.choice([2, 3]), rnd.randrange(most), gainful=True)
        if swap.is_gainful:
            break
    bounds = Bounds([random_bound(rnd) for _ in swap.strangers], [random_bound(rnd) for _ in swap.strangers])
    return Deal(swap, bounds, random_pairs(rnd, len(swap), rnd.choice([0, 0, 1])))


class WeeksTest(Case):
    def test_wrong_values(self):
        self.check_each_raises(BadDeal("deal"), NO_DEALS, lambda value: weekly(value, None))
        self.check_each_raises(BadSwap("swap"), NO_SWAPS, lambda value: forever(value, None))
        for share in [*NO_SHARES, 1, Ratio(1), Ratio(10 ** 9 + 1, 10 ** 9)]:
            self.check_raises(BadShare("q"), weekly, Deal(LOSING, Bounds.zero(3)), share)
            self.check_raises(BadShare("q"), forever, swap=CUP, q=share)

    def test_losers(self):
        self.check_raises(Loser("a"), weekly, deal=Deal(LOSING, Bounds.zero(3)), q=0)
        swap = Swap.read("a b c | b a 1 1 | c a 2 1")
        self.check_raises(Loser("b"), weekly, Deal(swap, Bounds.zero(3)), Ratio(1, 2))
        self.check_same(line(4, -2, -4), forever(swap, Ratio(1, 2)))

    def test_shares_0_and_just_below_1(self):
        deal = Deal(CUP, Bounds([None, 3], [None, 7]), [(0, 1)])
        self.assertEqual(Deal(CUP, Bounds([None, 3], [0, 0]), [(0, 1)]), weekly(deal, 0))
        near = weekly(deal, q=Ratio(10 ** 9 - 1, 10 ** 9))
        self.assertEqual(Deal(CUP, Bounds([None, 3], [10 ** 9 - 1] * 2), [(0, 1)]), near)
        self.check_same(line(1, 1), forever(CUP, 0))
        self.check_same(line(10 ** 9, 10 ** 9), forever(CUP, Ratio(10 ** 9 - 1, 10 ** 9)))
        self.assertEqual(Deal(CUP, Bounds([None, 3], [None, 7]), [(0, 1)]), deal)

    def test_nets_of_0_and_no_hand_over(self):
        none = Deal(NO_HANDS, Bounds.alike(2, None, None))
        self.assertEqual(Bounds.alike(2, None, 0), weekly(none, Ratio(1, 3)).bounds)
        self.check_same(line(0, 0), forever(NO_HANDS, Ratio(1, 3)))

    def test_nobody_would_leave_exactly_if_each_sum_is_at_most_what_the_weeks_come_to(self):
        rnd = random.Random(241)
        for _ in range(100):
            deal = gainful_deal(rnd)
            q = Ratio(rnd.randrange(5), 5)
            told = weekly(deal, q)
            self.assertEqual((deal.bounds.trusts, deal.leanings), (told.bounds.trusts, told.leanings))
            for net, pledge, worth in zip(deal.swap.nets, told.bounds.pledges, forever(deal.swap, q)):
                self.assertEqual(as_fraction(net) * as_fraction(q) / (1 - as_fraction(q)), as_fraction(pledge))
                self.assertEqual(as_fraction(net) / (1 - as_fraction(q)), as_fraction(worth))
            for done in all_sets(len(deal)):
                leaving = any(side == "leaves" for _, side, _ in plain_objections(told, done))
                above = any(total > as_fraction(worth) for total, worth in zip(plain_sums(deal.swap, done), forever(deal.swap, q)))
                self.assertIs(above, leaving)

    def test_a_good_row_is_good_for_each_greater_share(self):
        rnd = random.Random(242)
        some = 0
        for _ in range(100):
            deal = gainful_deal(rnd)
            for row in plain_good_rows(weekly(deal, Ratio(2, 5)))[:5]:
                some += 1
                for q in (Ratio(41, 100), Ratio(1, 2), Ratio(99, 100)):
                    self.assertTrue(shows_good(weekly(deal, q), Good(row)))
        self.assertGreater(some, 30)


if __name__ == "__main__":
    unittest.main()
