"""Hand-overs cut into pieces, and good orders of these."""

import itertools
import random
import unittest

from lastgiver.bounds import Bounds
from lastgiver.deals import Deal
from lastgiver.errors import BadCounts, BadDeal, BadNumber, BadPaper, BadSwap, Leans, TooMany
from lastgiver.numbered import Rows
from lastgiver.papers import Paper
from lastgiver.pieces import Pieced, Unpieced, cut, cut_deal, pieced, stretched, whole_of
from lastgiver.ratios import Ratio
from lastgiver.rows import find_row
from lastgiver.swaps import HandOver, Swap

from support import CUP, NO_DEALS, NO_HANDS, NO_NUMBERS, NO_SWAPS, ODD, Case, plain_pieces, plain_tally_allowed, random_deals

DEAL = Deal(CUP, Bounds.alike(2, 1, 1))
LEANT = Deal(CUP, Bounds.alike(2, 1, 1), [(1, 0)])
# For two hand-overs.
NO_COUNTS = [
    *ODD, 0, -1, Ratio(2), "11", [], (), [1], [1, 1, 1], [0, 1], [1, -1], [True, 1], [1, None], [1, Ratio(2)], [1, 1.0], ["1", 1], [[1, 1]],
    {0: 1, 1: 1}, CUP,
]


class WrongValuesTest(Case):
    def test_cut(self):
        self.check_each_raises(BadSwap("swap"), NO_SWAPS, lambda value: cut(value, None))
        self.check_each_raises(BadCounts("counts"), NO_COUNTS, lambda value: cut(swap=CUP, counts=value))
        for counts in (21, [1, 40], (40, 1), [10 ** 30, 1], 10 ** 30):
            self.check_raises(TooMany("hands", 40), cut, CUP, counts)
        self.assertEqual(40, len(cut(CUP, 20)))
        self.assertEqual(40, len(cut(CUP, [1, 39])))

    def test_cut_deal_and_pieced(self):
        for work in (cut_deal, pieced):
            self.check_each_raises(BadDeal("deal"), NO_DEALS, lambda value: work(value, None))
            self.check_each_raises(BadCounts("counts"), NO_COUNTS, lambda value: work(deal=LEANT, counts=value))
            self.check_raises(Leans(1, 0), work, LEANT, 10 ** 30)
            self.check_raises(Leans(0, 1), work, Deal(Swap(CUP.strangers, CUP.hands * 2), Bounds.zero(2), [(2, 0), (0, 1)]), 1)
        self.check_raises(TooMany("hands", 40), cut_deal, DEAL, 21)

    def test_4096_tallies_and_more(self):
        one = Deal(Swap(CUP.strangers, CUP.hands[:1]), Bounds.alike(2, None, None))
        self.assertEqual((0,) * 4095, pieced(one, 4095).order)
        self.check_raises(TooMany("tallies", 4096), pieced, one, 4096)
        self.check_raises(TooMany("tallies", 4096), pieced, DEAL, (64, 63))
        self.assertIs(Pieced, type(pieced(DEAL, (63, 63))))
        many = Deal(Swap(CUP.strangers, CUP.hands * 20), Bounds.zero(2))
        self.check_raises(TooMany("tallies", 4096), pieced, many, 1)
        self.check_raises(TooMany("tallies", 4096), pieced, many, 10 ** 30)
        twelve = Deal(Swap(CUP.strangers, CUP.hands * 6), Bounds.alike(2, 2, 2))
        self.assertEqual(find_row(twelve).row, pieced(twelve, 1).order)

    def test_whole_of(self):
        for counts in [*ODD, 0, 3, Ratio(2), "1", [0], [1, -1], [True], [None], [1.0], [[1]], {0: 1}]:
            if counts != ():
                self.check_raises(BadCounts("counts"), whole_of, counts)
        self.check_same(((), (0,), (0, 0, 0, 1, 2, 2)), (whole_of([]), whole_of((1,)), whole_of(counts=[3, 1, 2])))

    def test_stretched(self):
        paper = Pieced((1, 2), (1, 0, 1))
        for value in [
            *ODD, 3, (1, 2), Paper("pieced", (1, 2), (1, 0, 1)), Unpieced((1, 2), ()), Pieced(1, (0, 1)), Pieced((1, 2), (1, 0)),
            Pieced((1, 2), (1, 0, 0)), Pieced((1, 2), (1, 0, 1, 1)), Pieced((1, 0), (0,)), Pieced((1, True), (0, 1)), Pieced((1, 2), None),
            Pieced((1, 2), (1, 0, True)), Pieced((1, Ratio(2)), (1, 0, 1)), Pieced(None, ()), Pieced((1, 2), "101"), Pieced((-1,), ()),
            Pieced((1, 2), (1, 0, 2)), Pieced((10 ** 30,), ()),
        ]:
            self.check_raises(BadPaper("paper"), stretched, value, None)
        for value in [*NO_NUMBERS, 0, -1]:
            self.check_raises(BadNumber("times"), stretched, paper=paper, times=value)


class CutTest(Case):
    def test_pieces_of_ratios(self):
        swap = Swap.read("a b c | a b 1/2 3 | b c 0 1 | c a 5 2/3")
        self.assertEqual("a b c | a b 1/6 1 | a b 1/6 1 | a b 1/6 1 | b c 0 1 | c a 5/2 1/3 | c a 5/2 1/3", str(cut(swap, [3, 1, 2])))
        self.assertEqual(swap, cut(swap, 1))
        self.assertEqual(swap.nets, cut(swap, (5, 4, 3)).nets)
        self.assertEqual(NO_HANDS, cut(NO_HANDS, 7))
        self.assertEqual(NO_HANDS, cut(NO_HANDS, ()))

    def test_deals_keep_their_bounds(self):
        deal = Deal(CUP, Bounds([None, 1], [2, Ratio(1, 3)]))
        self.assertEqual(Deal(cut(CUP, (2, 3)), deal.bounds), cut_deal(deal, [2, 3]))
        self.assertEqual(Deal(NO_HANDS, Bounds.zero(2)), cut_deal(Deal(NO_HANDS, Bounds.zero(2)), 1))


class PiecedTest(Case):
    def test_papers(self):
        found = pieced(DEAL, [2, 2])
        self.assertIs(Pieced, type(found))
        self.check_same((True, "pieced", (2, 2), (0, 1, 0, 1)), (bool(found), found.word, found.counts, found.order))
        none = pieced(DEAL, 1)
        self.assertIs(Unpieced, type(none))
        self.check_same((False, "unpieced", (1, 1), ((0, 0),)), (bool(none), none.word, none.counts, none.reached))

    def test_what_is_passed_stays(self):
        counts, order = [2, 2], [1, 0, 1]
        found = pieced(DEAL, counts)
        paper = Pieced([1, 2], order)
        counts.append(3)
        longer = stretched(paper, 2)
        order.append(0)
        self.check_same(((2, 2), (1, 0, 1), (1, 1, 0, 0, 1, 1)), (found.counts, paper.order, longer.order))
        self.assertEqual(Deal(CUP, Bounds.alike(2, 1, 1)), DEAL)

    def test_no_hand_over(self):
        none = Deal(NO_HANDS, Bounds.zero(2))
        self.check_same(((), ()), pieced(none, 1).parts)
        self.check_same(((), ()), pieced(none, []).parts)

    def test_an_empty_or_a_full_set_that_is_not_allowed(self):
        swap = Swap.read("a b | a b 4 1")
        self.check_same((), pieced(Deal(swap, Bounds([None, 0], [3, 0])), 2).reached)
        self.check_same(((0,), (1,)), pieced(Deal(swap, Bounds([3, 0], [4, 0])), 2).reached)

    def test_by_going_through_all_tallies(self):
        rnd = random.Random(501)
        kinds = []
        for deal in random_deals(502, 150, 3, leanings=False):
            counts = tuple(rnd.randrange(1, 5) for _ in range(len(deal)))
            order, reached = plain_pieces(deal, counts)
            found = pieced(deal=deal, counts=list(counts))
            kinds.append(type(found))
            if order is None:
                self.check_same((counts, tuple(reached)), found.parts)
            else:
                self.check_same((counts, order), found.parts)
                done = [0] * len(counts)
                for number in order:
                    self.assertTrue(plain_tally_allowed(deal, counts, done))
                    done[number] += 1
                self.assertEqual(counts, tuple(done))
        self.assertGreater(kinds.count(Pieced), 20)
        self.assertGreater(kinds.count(Unpieced), 40)

    def test_as_rows_of_the_cut_deal(self):
        rnd = random.Random(503)
        for deal in random_deals(504, 60, 3, leanings=False):
            counts = tuple(rnd.randrange(1, 4) for _ in range(len(deal)))
            by_rows = find_row(cut_deal(deal, counts))
            found = pieced(deal, counts)
            self.assertIs(bool(by_rows), bool(found))
            if found:
                whole = whole_of(counts)
                orders = {tuple(whole[number] for number in row) for row in Rows(cut_deal(deal, counts)).in_order(2000)}
                self.assertEqual(min(orders), found.order)


class FactsTest(Case):
    def test_stretched_papers_are_good(self):
        rnd = random.Random(511)
        tried = 0
        for deal in random_deals(512, 100, 3, leanings=False):
            counts = tuple(rnd.randrange(1, 4) for _ in range(len(deal)))
            found = pieced(deal, counts)
            if found:
                tried += 1
                for times in (1, 2, 3):
                    longer = stretched(found, times)
                    self.assertEqual(tuple(count * times for count in counts), longer.counts)
                    done = [0] * len(counts)
                    for number in longer.order:
                        done[number] += 1
                        self.assertTrue(plain_tally_allowed(deal, longer.counts, done))
                    self.assertEqual(longer.counts, tuple(done))
                    self.assertTrue(pieced(deal, longer.counts))
        self.assertGreater(tried, 20)
        self.check_same(((2, 4), (1, 1, 0, 0, 1, 1)), stretched(Pieced((1, 2), (1, 0, 1)), 2).parts)
        self.check_same(((), ()), stretched(Pieced((), ()), 9).parts)

    def test_a_good_row_stays_good_however_it_is_cut(self):
        rnd = random.Random(513)
        tried = 0
        for deal in random_deals(514, 100, 4, leanings=False):
            for row in list(Rows(deal).in_order(3)):
                tried += 1
                counts = [rnd.randrange(1, 5) for _ in range(len(deal))]
                done = [0] * len(deal)
                for number in itertools.chain.from_iterable([one] * counts[one] for one in row):
                    done[number] += 1
                    self.assertTrue(plain_tally_allowed(deal, counts, done))
        self.assertGreater(tried, 30)

    def test_like_hand_overs(self):
        even = Swap(["a", "b"], [HandOver("a", "b", 2, 2), HandOver("b", "a", 2, 2)])
        for k in range(1, 8):
            found = pieced(Deal(even, Bounds([Ratio(2, 5), 0], [0, Ratio(2, 5)])), k)
            self.assertIs(k >= 5, bool(found))


if __name__ == "__main__":
    unittest.main()
