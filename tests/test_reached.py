"""Reached and live sets."""

import random
import unittest

from lastgiver.bounds import Bounds
from lastgiver.deals import Deal
from lastgiver.errors import BadDeal, TooMany
from lastgiver.fields import FEW_STEPS
from lastgiver.reached import firsts, lasts, live, reached
from lastgiver.swaps import Swap
from lastgiver.turned_deals import exchanged

from support import (
    CUP, NO_DEALS, NO_HANDS, Case, all_sets, plain_good_rows, plain_live, plain_reached, random_deal, random_deals,
)


def plain_leading(come, many):
    """Those of the sets from which single moves lead to the full one, in their order."""
    found = set()
    for done in reversed(come):
        behind = [tuple(sorted((*done, number))) for number in range(many) if number not in done]
        if len(done) == many or any(one in found for one in behind):
            found.add(done)
    return [done for done in come if done in found]


class ReachedTest(Case):
    def test_wrong_values(self):
        more = Deal(Swap(CUP.strangers, [CUP[0]] * 13), Bounds.zero(2))
        for work in (reached, live, firsts, lasts):
            self.check_each_raises(BadDeal("deal"), NO_DEALS, work)
            self.check_raises(TooMany("hands", 12), work, more)

    def test_no_hand_over(self):
        deal = Deal(NO_HANDS, Bounds.zero(2))
        self.check_same([((),), ((),), (), ()], [reached(deal), live(deal), firsts(deal), lasts(deal)])

    def test_an_empty_set_that_is_not_allowed(self):
        deal = Deal(Swap.read("a b | a b 2 3 | a b 1 1"), Bounds([None, None], [1, None]))
        self.check_same([(), (), (), ()], [reached(deal), live(deal), firsts(deal), lasts(deal)])

    def test_a_full_set_that_is_not_allowed(self):
        deal = Deal(Swap.read("a b | a b 2 3 | a b 1 1"), Bounds([2, None], [None, None]))
        self.check_same([((), (0,), (1,)), (), (), ()], [reached(deal), live(deal), firsts(deal), lasts(deal)])

    def test_12_hand_overs(self):
        deal = Deal(Swap(CUP.strangers, CUP.hands * 6), Bounds.alike(2, None, None))
        self.assertEqual((tuple(all_sets(12)), tuple(range(12)), tuple(range(12))), (reached(deal), firsts(deal), lasts(deal)))
        self.assertEqual(reached(deal), live(deal=deal))

    def test_by_trying_all(self):
        with_rows = 0
        for deal in random_deals(41, 120):
            rows = plain_good_rows(deal)
            with_rows += len(rows) > 0
            self.check_same(tuple(plain_reached(deal)), reached(deal=deal))
            self.check_same(tuple(plain_live(deal)), live(deal))
            self.check_same(tuple(sorted({row[0] for row in rows if row})), firsts(deal=deal))
            self.check_same(tuple(sorted({row[-1] for row in rows if row})), lasts(deal=deal))
            self.assertIs(len(rows) > 0, tuple(range(len(deal))) in reached(deal))
        self.assertTrue(20 < with_rows < 100, with_rows)

    def test_12_equal_hand_overs_of_which_one_can_be_done(self):
        deal = Deal(Swap.read("a b" + " | a b 1 2" * 12), Bounds.alike(2, 1, 99))
        self.assertEqual(4096, len(all_sets(12)))
        self.check_same(((), *[(number,) for number in range(12)]), reached(deal))
        self.check_same([(), (), ()], [live(deal), firsts(deal), lasts(deal)])

    def test_few_and_many_reached_sets_of_greater_deals(self):
        rnd = random.Random(43)
        sizes = set()
        for _ in range(60):
            deal = random_deal(rnd, rnd.choice([2, 3, 5]), rnd.choice([8, 9, 10]), rnd.choice([0, 0, 2]), rnd.choice([3, 9, 30]))
            come = plain_reached(deal)
            sizes.add(len(come) * len(deal) > FEW_STEPS)
            self.check_same(tuple(come), reached(deal))
            alive = plain_leading(come, len(deal))
            self.check_same(tuple(alive), live(deal))
            self.check_same(tuple(sorted(done[0] for done in alive if len(done) == 1)), firsts(deal))
            lacking = [set(range(len(deal))) - set(done) for done in alive if len(done) == len(deal) - 1]
            self.check_same(tuple(sorted(number for one in lacking for number in one)), lasts(deal))
        self.assertEqual({False, True}, sizes)

    def test_the_exchanged_deal_has_the_complements_of_the_live_sets(self):
        for deal in random_deals(42, 40):
            every = set(range(len(deal)))
            others = [tuple(sorted(every - set(done))) for done in live(exchanged(deal))]
            self.assertEqual(sorted(live(deal)), sorted(others))
            self.assertEqual((firsts(deal), lasts(deal)), (lasts(exchanged(deal)), firsts(exchanged(deal))))


if __name__ == "__main__":
    unittest.main()
