"""All good rows by number."""

import itertools
import math
import unittest

from lastgiver.bounds import Bounds
from lastgiver.deals import Deal
from lastgiver.errors import BadDeal, BadDone, BadNumber, BadRow, NoHand, NoRow, NotGood, TooMany, Twice
from lastgiver.numbered import Rows
from lastgiver.swaps import Swap
from lastgiver.turned_deals import rest_deal

from support import (
    CUP, NO_DEALS, NO_DONE, NO_HANDS, NO_NUMBERS, Case, all_sets, plain_allowed, plain_good_rows, random_deals,
)

BOLD = Deal(CUP, Bounds.alike(2, 2, 2))
TURNS = Rows(Deal(CUP, Bounds([2, 0], [0, 2])))
WIDE = Rows(Deal(Swap(CUP.strangers, CUP.hands * 6), Bounds.alike(2, None, None)))
NO_ROWS = [*NO_DONE, [], [0], (0, 1, 2), (0, 0), [1, 2], (-1, 0), [0, True], {0: 1, 1: 0}]


class NumberedTest(Case):
    def test_wrong_values(self):
        self.check_each_raises(BadDeal("deal"), NO_DEALS, Rows)
        self.check_raises(TooMany("hands", 12), Rows, Deal(Swap(CUP.strangers, [CUP[0]] * 13), Bounds.zero(2)))
        self.assertEqual(12, Rows.MOST)

    def test_attributes(self):
        rows = Rows(deal=BOLD)
        self.assertEqual((BOLD, 2, 12), (rows.deal, rows.count, rows.MOST))
        self.assertIs(int, type(rows.count))
        self.assertEqual([True, True, False], [bool(rows), bool(TURNS), bool(Rows(Deal(CUP, Bounds.zero(2))))])

    def test_no_hand_over_and_12(self):
        rows = Rows(Deal(NO_HANDS, Bounds.zero(2)))
        self.assertEqual((1, (), 0, [()], 1), (rows.count, rows.at(0), rows.place_of([]), list(rows.in_order(9)), rows.from_set([])))
        self.assertTrue(() in rows and [] in rows and [0] not in rows)
        self.assertEqual(math.factorial(12), WIDE.count)
        self.assertEqual(tuple(range(12))[::-1], WIDE.at(WIDE.count - 1))
        self.assertEqual(WIDE.count - 1, WIDE.place_of(list(range(12))[::-1]))
        self.assertEqual([tuple(range(12)), (*range(10), 11, 10)], list(WIDE.in_order(2)))

    def test_numbers_that_are_none(self):
        self.check_each_raises(BadNumber("number"), NO_NUMBERS, TURNS.at)
        for number in (-1, -2, 1, 2, 10 ** 40):
            self.check_raises(NoRow(number), TURNS.at, number)
        self.check_raises(NoRow(0), Rows(Deal(CUP, Bounds.zero(2))).at, 0)
        self.check_each_raises(BadNumber("many"), [*NO_NUMBERS, -1], lambda value: list(TURNS.in_order(value)))

    def test_rows_that_are_none(self):
        self.check_each_raises(BadRow("row"), NO_ROWS, TURNS.place_of)
        self.assertEqual([], [value for value in [*NO_ROWS, 3, "01", BOLD] if value in TURNS])
        self.assertTrue((0, 1) in TURNS and [0, 1] in TURNS and (1, 0) not in TURNS and [1, 0] not in TURNS)
        self.check_raises(NotGood(1), TURNS.place_of, (1, 0))
        self.check_raises(NotGood(0), Rows(Deal(-CUP, Bounds.zero(2))).place_of, [1, 0])
        self.check_raises(NotGood(2), Rows(Deal(-CUP, Bounds([0, 9], [9, 9]))).place_of, (0, 1))

    def test_wrong_done_sets(self):
        self.check_each_raises(BadDone("done"), NO_DONE, TURNS.from_set)
        self.check_raises(NoHand(2), TURNS.from_set, [1, 1, 2])
        self.check_raises(Twice(1), TURNS.from_set, [1, 1])

    def test_by_trying_all(self):
        for deal in random_deals(61, 120):
            wanted = plain_good_rows(deal)
            rows = Rows(deal)
            self.assertEqual((len(wanted), len(wanted) > 0), (rows.count, bool(rows)))
            self.check_same(wanted, [rows.at(number=number) for number in range(rows.count)])
            self.check_same(wanted, list(rows.in_order(rows.count + 1)))
            self.check_same(wanted[:3], list(rows.in_order(many=3)))
            self.assertEqual([], list(rows.in_order(0)))
            for number, row in enumerate(wanted):
                self.assertEqual(number, rows.place_of(row=list(row)))
            for row in itertools.islice(itertools.permutations(range(len(deal))), 30):
                self.assertIs(row in wanted, row in rows)
                if row not in wanted:
                    bad = [moment for moment in range(len(row) + 1) if not plain_allowed(deal, row[:moment])]
                    self.check_raises(NotGood(bad[0]), rows.place_of, row)

    def test_from_set_by_trying_all(self):
        for deal in random_deals(62, 50, 4):
            rows = Rows(deal)
            for done in all_sets(len(deal)):
                many = 0
                if plain_allowed(deal, done):
                    many = len(plain_good_rows(rest_deal(deal, done)))
                self.assertEqual(many, rows.from_set(done=done[::-1]))
            full = tuple(range(len(deal)))
            self.assertEqual(1 if plain_allowed(deal, full) else 0, rows.from_set(full))

    def test_the_number_of_each_row_and_back(self):
        for number in range(0, WIDE.count, 9999991):
            self.assertEqual(number, WIDE.place_of(WIDE.at(number)))

    def test_what_is_passed_and_returned(self):
        row = [0, 1]
        self.assertEqual(0, TURNS.place_of(row))
        self.assertEqual([0, 1], row)
        found = list(TURNS.in_order(1))
        found.append(None)
        self.assertEqual([(0, 1)], list(TURNS.in_order(1)))


if __name__ == "__main__":
    unittest.main()
