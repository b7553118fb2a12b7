"""Good rows by kinds."""

import random
import unittest

from lastgiver.bounds import Bounds
from lastgiver.deals import Deal
from lastgiver.errors import BadDeal, TooMany
from lastgiver.kind_rows import StuckKinds, count_by_kinds, find_by_kinds
from lastgiver.kinds import Kinds
from lastgiver.numbered import Rows
from lastgiver.reached import reached
from lastgiver.rows import Good, find_row
from lastgiver.swaps import HandOver, Swap

from support import CUP, NO_DEALS, NO_HANDS, Case, plain_good, random_deals

WIDE = Bounds.alike(2, None, None)


def unlike(many):
    """So many hand-overs, each of a kind of its own."""
    return [HandOver("ann", "bob", number, 0) for number in range(many)]


class KindRowsTest(Case):
    def test_wrong_values(self):
        more = Swap(CUP.strangers, unlike(13))
        for work in (find_by_kinds, count_by_kinds):
            self.check_each_raises(BadDeal("deal"), NO_DEALS, work)
            self.check_raises(BadDeal("leanings"), work, Deal(CUP, WIDE, [(0, 1)]))
            self.check_raises(BadDeal("leanings"), work, Deal(more, WIDE, [(0, 1)]))
            self.check_raises(TooMany("counts", 4096), work, Deal(more, WIDE))
            self.check_raises(TooMany("counts", 4096), work, Deal(Swap(CUP.strangers, unlike(40)), WIDE))

    def test_4096_counts_and_more(self):
        twelve = Deal(Swap(CUP.strangers, unlike(12)), WIDE)
        self.assertEqual((tuple(range(12)), 479001600), (find_by_kinds(twelve).row, count_by_kinds(twelve)))
        # 16 times 4 times 4 times 4 times 4 counts.
        many = Swap(CUP.strangers, unlike(1) * 15 + unlike(5)[1:] * 3)
        self.assertTrue(find_by_kinds(Deal(many, WIDE)))
        self.assertEqual(Kinds(many).sets_with([15, 3, 3, 3, 3]), 1)
        self.check_raises(TooMany("counts", 4096), count_by_kinds, Deal(many + Swap(CUP.strangers, unlike(1)), WIDE))

    def test_no_hand_over_and_40(self):
        none = Deal(NO_HANDS, Bounds.zero(2))
        self.assertEqual((Good(()), 1), (find_by_kinds(none), count_by_kinds(none)))
        even = Swap.read("ann bob | ann bob 2 2 | bob ann 2 2")
        turns = Deal(Swap(even.strangers, even.hands * 20), Bounds([2, 0], [0, 2]))
        self.assertEqual(tuple(range(40)), find_by_kinds(turns).row)
        self.assertEqual(Kinds(turns.swap).orders, count_by_kinds(turns))

    def test_an_empty_or_a_full_set_that_is_not_allowed(self):
        swap = Swap.read("a b | a b 2 3 | a b 1 1 | a b 2 3")
        self.assertEqual(StuckKinds(()), find_by_kinds(Deal(swap, Bounds([None, None], [1, None]))))
        found = find_by_kinds(Deal(swap, Bounds([4, None], [None, None])))
        self.check_same(((0, 0), (0, 1), (1, 0), (1, 1), (2, 0)), found.counts)

    def test_by_kinds_as_by_sets(self):
        kinds = set()
        for deal in random_deals(71, 150, 6, leanings=False):
            found = find_by_kinds(deal=deal)
            kinds.add(type(found))
            self.assertEqual(Rows(deal).count, count_by_kinds(deal=deal))
            by_sets = find_row(deal)
            if by_sets:
                self.assertEqual(by_sets, found)
            else:
                told = Kinds(deal.swap)
                counts = {told.counts_of(done) for done in reached(deal)}
                self.assertIs(StuckKinds, type(found))
                self.check_same(tuple(sorted(counts, key=lambda row: (sum(row), row))), found.counts)
        self.assertEqual({Good, StuckKinds}, kinds)

    def test_many_counts_as_by_sets(self):
        rnd = random.Random(73)
        kinds = set()
        for most in (3, 6, 6, 9, 9, 12, 30, 30):
            hands = [HandOver(*rnd.sample(["a", "b", "c"], 2), rnd.randrange(4), rnd.randrange(4)) for _ in range(6)]
            swap = Swap(["a", "b", "c"], rnd.sample(hands * 2, 12))
            deal = Deal(swap, Bounds.alike(3, most, most))
            found, by_sets = find_by_kinds(deal), find_row(deal)
            kinds.add(type(found))
            self.assertEqual(Rows(deal).count, count_by_kinds(deal))
            if found:
                self.assertEqual(by_sets, found)
            else:
                counts = {Kinds(swap).counts_of(done) for done in by_sets.sets}
                self.assertEqual(tuple(sorted(counts, key=lambda row: (sum(row), row))), found.counts)
        self.assertEqual({Good, StuckKinds}, kinds)

    def test_there_are_as_many_good_rows_as_good_rows_tried(self):
        rnd = random.Random(72)
        deal = Deal(Swap(CUP.strangers, [CUP[0]] * 4 + [CUP[1]] * 4), Bounds([4, 2], [2, 4]))
        for _ in range(50):
            row = rnd.sample(range(8), 8)
            self.assertIs(plain_good(deal, row), row in Rows(deal))
        self.assertEqual(Rows(deal).count, count_by_kinds(deal))


if __name__ == "__main__":
    unittest.main()
