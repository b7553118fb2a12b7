"""Deals exchanged, handed back, and what is left of them."""

import random
import unittest

from lastgiver.bounds import Bounds
from lastgiver.deals import Deal, allowed_sets
from lastgiver.errors import Ahead, BadDeal, BadDone, Below, NoHand, Objected, Twice
from lastgiver.ratios import Ratio
from lastgiver.swaps import Swap
from lastgiver.turned_deals import exchanged, handed_back_deal, rest_deal

from support import (
    CUP, NO_DEALS, NO_DONE, NO_HANDS, Case, all_sets, as_fraction, plain_allowed, plain_good, plain_good_rows, plain_sums,
    random_deals,
)

LEANT = Deal(CUP + CUP, Bounds([2, None], [0, 2]), [(0, 1), (0, 3), (2, 3)])


def handed_back_or_none(deal):
    """The deal handed back, None if it is refused."""
    try:
        return handed_back_deal(deal)
    except Below:
        return None


class TurnedDealsTest(Case):
    def test_wrong_values(self):
        for work in (exchanged, handed_back_deal, lambda value: rest_deal(value, None)):
            self.check_each_raises(BadDeal("deal"), NO_DEALS, work)
        self.check_each_raises(BadDone("done"), NO_DONE, lambda value: rest_deal(LEANT, value))
        self.check_raises(NoHand(4), rest_deal, LEANT, [1, 1, 4])
        self.check_raises(Twice(1), rest_deal, LEANT, [1, 1])

    def test_exchanged(self):
        found = exchanged(deal=LEANT)
        self.assertEqual((LEANT.swap, "0 2 , 2 wide", ((1, 0), (3, 0), (3, 2))), (found.swap, str(found.bounds), found.leanings.pairs))
        self.assertEqual(LEANT, exchanged(found))

    def test_handed_back(self):
        found = handed_back_deal(deal=LEANT)
        self.assertEqual((-LEANT.swap, "4 2 , wide 4", ((1, 0), (3, 0), (3, 2))), (found.swap, str(found.bounds), found.leanings.pairs))
        self.assertEqual(LEANT, handed_back_deal(found))

    def test_handed_back_below(self):
        swap = Swap.read("a b c | a b 2 3 | b c 1/2 5 | b c 4 0")
        for bounds, name, side, amount in [
            ("0 0 , 0 0 , 0 0", "a", "drawn", Ratio(2)), ("2 1/2 , 0 0 , 0 0", "a", "leaves", Ratio(3, 2)),
            ("2 2 , 1 0 , 0 0", "b", "drawn", Ratio(1, 2)), ("wide wide , 2 1 , 0 0", "b", "leaves", Ratio(1, 2)),
        ]:
            self.check_raises(Below(name, side, amount), handed_back_deal, Deal(swap, Bounds.read(bounds)))
        told = handed_back_deal(Deal(swap, Bounds.read("2 2 , wide 3/2 , 0 0")))
        self.assertEqual("0 0 , wide 0 , 5 5", str(told.bounds))

    def test_rest(self):
        found = rest_deal(deal=LEANT, done=[0])
        self.assertEqual("ann bob | bob ann 2 3 | ann bob 2 3 | bob ann 2 3 ; 0 0 , wide 2 ; 1 2", str(found))
        self.assertEqual(LEANT, rest_deal(LEANT, ()))
        self.assertEqual("ann bob ; 4 0 , wide 2", str(rest_deal(LEANT, (3, 1, 2, 0))))
        none = Deal(NO_HANDS, Bounds.zero(2))
        self.assertEqual(none, rest_deal(none, []))

    def test_rest_behind_what_is_not_allowed(self):
        self.check_raises(Ahead(0, 1), rest_deal, LEANT, [3, 1])
        self.check_raises(Ahead(0, 3), rest_deal, LEANT, [3])
        self.check_raises(Ahead(2, 3), rest_deal, LEANT, [3, 0])
        self.check_raises(Objected("ann", Ratio(2)), rest_deal, LEANT, [2, 0])
        self.check_raises(Objected("bob", Ratio(1, 2)), rest_deal, Deal(CUP, Bounds([2, 0], [0, Ratio(3, 2)])), [0])

    def test_exchanged_objections_are_those_at_the_rest_with_sides_exchanged(self):
        sides = {"drawn": "leaves", "leaves": "drawn"}
        for deal in random_deals(31, 40):
            turned = exchanged(deal)
            for done in all_sets(len(deal)):
                others = [number for number in range(len(deal)) if number not in done]
                found = sorted((told.name, sides[told.side], as_fraction(told.amount)) for told in turned.objections(others))
                self.assertEqual(sorted((told.name, told.side, as_fraction(told.amount)) for told in deal.objections(done)), found)
                self.assertIs(deal.is_allowed(done), turned.is_allowed(others))

    def test_a_row_is_good_exactly_if_it_is_from_behind_in_the_turned_deals(self):
        back_too = 0
        for deal in random_deals(32, 60, 4):
            rows = plain_good_rows(deal)
            self.assertEqual(rows, sorted(row[::-1] for row in plain_good_rows(exchanged(deal))))
            back = handed_back_or_none(deal)
            if back is not None:
                back_too += 1
                self.assertEqual(rows, sorted(row[::-1] for row in plain_good_rows(back)))
        self.assertGreater(back_too, 10)

    def test_handed_back_the_sums_are_the_negatives(self):
        for deal in random_deals(33, 20):
            for done in all_sets(len(deal)):
                self.assertEqual([-total for total in plain_sums(deal.swap, done)], plain_sums(-deal.swap, done))

    def test_a_row_is_good_exactly_if_its_other_numbers_are_a_good_row_of_what_is_left(self):
        rnd = random.Random(34)
        tried = 0
        for deal in random_deals(34, 150):
            row = rnd.sample(range(len(deal)), len(deal))
            many = rnd.randrange(len(row) + 1)
            if all(plain_allowed(deal, row[:moment]) for moment in range(many + 1)):
                tried += 1
                left = rest_deal(deal, row[:many])
                places = {number: place for place, number in enumerate(sorted(row[many:]))}
                self.assertIs(plain_good(deal, row), plain_good(left, [places[number] for number in row[many:]]))
        self.assertGreater(tried, 50)

    def test_what_is_allowed_in_what_is_left(self):
        for deal in random_deals(35, 25, 4):
            for done in allowed_sets(deal):
                left = rest_deal(deal, done)
                others = [number for number in range(len(deal)) if number not in done]
                for more in all_sets(len(others)):
                    whole = sorted([*done, *[others[number] for number in more]])
                    self.assertIs(plain_allowed(deal, whole), left.is_allowed(more))


if __name__ == "__main__":
    unittest.main()
