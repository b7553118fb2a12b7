"""Reached and live sets."""

import unittest

from lastgiver.bounds import Bounds
from lastgiver.deals import Deal
from lastgiver.errors import BadDeal, TooMany
from lastgiver.reached import firsts, lasts, live, reached
from lastgiver.swaps import Swap
from lastgiver.turned_deals import exchanged

from support import CUP, NO_DEALS, NO_HANDS, Case, all_sets, plain_good_rows, plain_live, plain_reached, random_deals


class ReachedTest(Case):
    def test_wrong_values(self):
        more = Deal(Swap(CUP.strangers, [CUP[0]] * 13), Bounds.zero(2))
        for work in (reached, live, firsts, lasts):
            self.check_each_raises(BadDeal("deal"), NO_DEALS, work)
            self.check_raises(TooMany("hands", 12), work, more)

    def test_no_hand_over(self):
        deal = Deal(NO_HANDS, Bounds.zero(2))
        self.check_same([((),), ((),), (), ()], [reached(deal), live(deal), firsts(deal), lasts(deal)])

    def test_an_empty_set_that_is_not_allowed(self):
        deal = Deal(Swap.read("a b | a b 2 3 | a b 1 1"), Bounds([None, None], [1, None]))
        self.check_same([(), (), (), ()], [reached(deal), live(deal), firsts(deal), lasts(deal)])

    def test_a_full_set_that_is_not_allowed(self):
        deal = Deal(Swap.read("a b | a b 2 3 | a b 1 1"), Bounds([2, None], [None, None]))
        self.check_same([((), (0,), (1,)), (), (), ()], [reached(deal), live(deal), firsts(deal), lasts(deal)])

    def test_12_hand_overs(self):
        deal = Deal(Swap(CUP.strangers, CUP.hands * 6), Bounds.alike(2, None, None))
        self.assertEqual((tuple(all_sets(12)), tuple(range(12)), tuple(range(12))), (reached(deal), firsts(deal), lasts(deal)))
        self.assertEqual(reached(deal), live(deal=deal))

    def test_by_trying_all(self):
        with_rows = 0
        for deal in random_deals(41, 120):
            rows = plain_good_rows(deal)
            with_rows += len(rows) > 0
            self.check_same(tuple(plain_reached(deal)), reached(deal=deal))
            self.check_same(tuple(plain_live(deal)), live(deal))
            self.check_same(tuple(sorted({row[0] for row in rows if row})), firsts(deal=deal))
            self.check_same(tuple(sorted({row[-1] for row in rows if row})), lasts(deal=deal))
            self.assertIs(len(rows) > 0, tuple(range(len(deal))) in reached(deal))
        self.assertTrue(20 < with_rows < 100, with_rows)

    def test_the_exchanged_deal_has_the_complements_of_the_live_sets(self):
        for deal in random_deals(42, 40):
            every = set(range(len(deal)))
            others = [tuple(sorted(every - set(done))) for done in live(exchanged(deal))]
            self.assertEqual(sorted(live(deal)), sorted(others))
            self.assertEqual((firsts(deal), lasts(deal)), (lasts(exchanged(deal)), firsts(exchanged(deal))))


if __name__ == "__main__":
    unittest.main()
