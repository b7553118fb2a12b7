"""The first good row, closed lists, forced pairs."""

import itertools
import unittest

from lastgiver.bounds import Bounds
from lastgiver.deals import Deal
from lastgiver.errors import BadDeal, Below, Ring, TooMany
from lastgiver.reached import live
from lastgiver.rows import Good, Stuck, find_row, forced
from lastgiver.swaps import Swap
from lastgiver.turned_deals import exchanged, handed_back_deal

from support import CUP, NO_DEALS, NO_HANDS, Case, plain_good_rows, plain_reached, random_deals


class RowsTest(Case):
    def test_wrong_values(self):
        more = Deal(Swap(CUP.strangers, [CUP[0]] * 13), Bounds.zero(2))
        for work in (find_row, forced):
            self.check_each_raises(BadDeal("deal"), NO_DEALS, work)
            self.check_raises(TooMany("hands", 12), work, more)

    def test_no_hand_over_and_12(self):
        none = Deal(NO_HANDS, Bounds.zero(2))
        self.check_same([(), ()], [find_row(none).row, forced(none)])
        wide = Deal(Swap(CUP.strangers, CUP.hands * 6), Bounds.alike(2, None, None))
        self.check_same([tuple(range(12)), ()], [find_row(wide).row, forced(wide)])
        turns = Deal(Swap(CUP.strangers, CUP.hands * 6), Bounds([2, 0], [0, 2]))
        self.assertEqual(tuple(range(12)), find_row(turns).row)

    def test_an_empty_or_a_full_set_that_is_not_allowed(self):
        swap = Swap.read("a b | a b 2 3 | a b 1 1")
        self.assertEqual(Stuck(()), find_row(Deal(swap, Bounds([None, None], [1, None]))))
        self.assertEqual(Stuck([(), (0,), (1,)]), forced(Deal(swap, Bounds([2, None], [None, None]))))

    def test_by_trying_all(self):
        kinds = set()
        for deal in random_deals(51, 150):
            rows = plain_good_rows(deal)
            found = find_row(deal=deal)
            kinds.add(type(found))
            if rows:
                self.assertIs(Good, type(found))
                self.check_same(rows[0], found.row)
                ahead = itertools.permutations(range(len(deal)), 2)
                pairs = [(e, f) for e, f in ahead if all(row.index(e) < row.index(f) for row in rows)]
                self.check_same(tuple(pairs), forced(deal=deal))
            else:
                self.assertIs(Stuck, type(found))
                self.check_same(tuple(plain_reached(deal)), found.sets)
                self.assertEqual(found, forced(deal))
                self.assertIs(Stuck, type(forced(deal)))
        self.assertEqual({Good, Stuck}, kinds)

    def test_a_pair_is_forced_exactly_if_each_live_set_that_has_the_second_has_the_first(self):
        for deal in random_deals(52, 60):
            sets = live(deal)
            if sets:
                every = itertools.permutations(range(len(deal)), 2)
                pairs = [(e, f) for e, f in every if all(e in done for done in sets if f in done)]
                self.assertEqual(tuple(pairs), forced(deal))

    def test_forced_pairs_told_as_leanings_bar_no_good_row_and_any_other_bars_one(self):
        for deal in random_deals(53, 40, 4):
            rows = plain_good_rows(deal)
            if not rows:
                continue
            pairs = forced(deal)
            more = Deal(deal.swap, deal.bounds, [*deal.leanings.pairs, *pairs])
            self.assertEqual(rows, plain_good_rows(more))
            for pair in itertools.permutations(range(len(deal)), 2):
                if pair not in pairs:
                    try:
                        fewer = plain_good_rows(Deal(deal.swap, deal.bounds, [*deal.leanings.pairs, pair]))
                    except Ring:
                        fewer = []
                    self.assertLess(len(fewer), len(rows))

    def test_forced_pairs_of_the_exchanged_deal_are_turned_about(self):
        for deal in random_deals(54, 40):
            if find_row(deal):
                self.assertEqual(sorted((f, e) for e, f in forced(deal)), list(forced(exchanged(deal))))

    def test_the_deal_handed_back_has_the_complements_and_the_forced_pairs_turned_about(self):
        tried = 0
        for deal in random_deals(58, 120, 4):
            try:
                back = handed_back_deal(deal)
            except Below:
                continue
            every = set(range(len(deal)))
            self.assertEqual(sorted(live(deal)), sorted(tuple(sorted(every - set(done))) for done in live(back)))
            self.assertIs(bool(find_row(deal)), bool(find_row(back)))
            if find_row(deal):
                tried += 1
                self.assertEqual(sorted((f, e) for e, f in forced(deal)), list(forced(back)))
        self.assertGreater(tried, 20)

    def test_a_call_made_again_returns_an_equal_one(self):
        for deal in random_deals(55, 10):
            again = Deal.read(str(deal))
            self.assertEqual((find_row(deal), forced(deal)), (find_row(again), forced(again)))


if __name__ == "__main__":
    unittest.main()
