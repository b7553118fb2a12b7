"""Patience."""

import random
import unittest

from lastgiver.bounds import Bounds
from lastgiver.check_rows import shows_good
from lastgiver.deals import Deal
from lastgiver.dials import Dial
from lastgiver.errors import BadDeal, Loser, TooMany
from lastgiver.least import Least, Never, least
from lastgiver.patience import Patience, patience
from lastgiver.ratios import Ratio
from lastgiver.rows import Good, find_row
from lastgiver.swaps import Swap
from lastgiver.weeks import weekly

from support import CUP, NO_DEALS, NO_HANDS, Case, random_bound, random_pairs, random_swap


class PatienceTest(Case):
    def test_wrong_values(self):
        self.check_each_raises(BadDeal("deal"), NO_DEALS, lambda value: patience(deal=value))
        losing = Swap.read("a b c | a b 1 5 | b c 4 1 | a c 1 0")
        self.check_raises(Loser("a"), patience, Deal(losing, Bounds.zero(3)))
        many = Swap(CUP.strangers, [CUP[0]] * 13)
        self.check_raises(Loser("ann"), patience, Deal(many, Bounds.zero(2)))
        ring = Swap.ring("ann", "bob", "cay")
        self.check_raises(TooMany("hands", 12), patience, Deal(Swap(ring.strangers, [*ring.hands * 4, *ring.hands]), Bounds.zero(3)))

    def test_12_hand_overs(self):
        found = patience(Deal(Swap(CUP.strangers, CUP.hands * 6), Bounds.alike(2, 2, 0)))
        self.check_same(Ratio(1, 4), found.number)

    def test_papers(self):
        found = patience(Deal(CUP, Bounds.alike(2, 2, 0)))
        self.assertIs(Patience, type(found))
        self.assertIs(Least, type(found.factor))
        self.check_same((True, "patience", Ratio(2, 3), Ratio(2)), (bool(found), found.word, found.number, found.factor.number))
        never = patience(Deal(CUP, Bounds.zero(2)))
        self.assertEqual(Never([()]), never)
        self.assertIs(Never, type(never))

    def test_nets_of_0_and_no_hand_over(self):
        even = Swap.read("a b | a b 1 1 | b a 1 1")
        self.assertEqual(Never([()]), patience(Deal(even, Bounds.alike(2, 1, 9))))
        self.check_same(Ratio(0), patience(Deal(NO_HANDS, Bounds.zero(2))).number)
        free = Swap.read("a b | a b 0 1 | b a 0 1")
        self.check_same(Ratio(0), patience(Deal(free, Bounds.zero(2))).number)

    def test_it_is_the_least_share_of_the_weekly_deal(self):
        rnd = random.Random(461)
        kinds = []
        for _ in range(300):
            swap = random_swap(rnd, rnd.choice([2, 3]), rnd.randrange(6), gainful=True)
            if swap.is_gainful:
                trusts = [random_bound(rnd) for _ in swap.strangers]
                deal = Deal(swap, Bounds(trusts, [random_bound(rnd) for _ in swap.strangers]), random_pairs(rnd, len(swap), 1))
                found = patience(deal)
                kinds.append(type(found))
                if found:
                    self.assertEqual(least(deal, Dial.by_weeks(swap)), found.factor)
                    self.assertTrue(found.number.is_below(1))
                    self.assertTrue(shows_good(weekly(deal, found.number), Good(found.factor.row)))
                    if found.number.sign > 0:
                        self.assertFalse(find_row(weekly(deal, found.number * Ratio(999, 1000))))
                else:
                    self.assertFalse(find_row(weekly(deal, Ratio(10 ** 9 - 1, 10 ** 9))))
        self.assertGreater(kinds.count(Patience), 30)
        self.assertGreater(kinds.count(Never), 5)


if __name__ == "__main__":
    unittest.main()
