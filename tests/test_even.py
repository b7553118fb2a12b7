"""Even prices between two: lanes, the filling, and the hardest prices."""

import random
import unittest
from fractions import Fraction
from math import gcd

from lastgiver.bounds import Bounds
from lastgiver.deals import Deal
from lastgiver.errors import BadDeal, BadNumber, BadSwap, Leans, NotCoprime, NotEven, NotTwo, TooMany
from lastgiver.even import Filled, Halted, Outside, enough_width, filled, grain, hardest, lane
from lastgiver.kind_rows import count_by_kinds
from lastgiver.kinds import Kinds
from lastgiver.ratios import Ratio
from lastgiver.swaps import HandOver, Swap

from support import (
    CUP, NO_DEALS, NO_HANDS, NO_NUMBERS, NO_SWAPS, Case, all_sets, as_fraction, plain_allowed, plain_sums, random_bound, random_ratio,
)

WIDE = Bounds.alike(2, None, None)
LOADS = Swap.read("ann bob | ann bob 1 1 | ann bob 1 1 | bob ann 2 2")
THREE = Swap.read("a b c | a b 1 2 | b c 1 1")


def even_swap(rnd, most=7, price=random_ratio):
    """A swap of two with even prices."""
    hands = []
    for _ in range(rnd.randrange(most)):
        worth = price(rnd)
        hands.append(HandOver(*rnd.sample(["ann", "bob"], 2), worth, worth))
    return Swap(["ann", "bob"], hands)


def plain_lane(deal):
    """The lane, as Fractions or None."""
    net = plain_sums(deal.swap, range(len(deal)))[0]
    told = [None if one is None else as_fraction(one) for one in (*deal.bounds.trusts, *deal.bounds.pledges)]
    lows = [one for one in (None if told[0] is None else -told[0], None if told[3] is None else net - told[3]) if one is not None]
    highs = [one for one in (None if told[2] is None else net + told[2], told[1]) if one is not None]
    return max(lows, default=None), min(highs, default=None)


def plain_grain(prices):
    """The greatest Fraction of which each price is a whole multiple."""
    bottom = 1
    for price in prices:
        bottom *= price.denominator
    return Fraction(gcd(*[int(price * bottom) for price in prices]), bottom) if prices else Fraction(0)


def plain_filling(deal):
    """The row, and whether it halted."""
    low, high = plain_lane(deal)
    row = []
    while len(row) < len(deal):
        for name in (deal.swap.strangers[1], deal.swap.strangers[0]):
            fit = []
            for number in range(len(deal)):
                total = plain_sums(deal.swap, [*row, number])[0]
                if number not in row and deal.swap.hands[number].giver == name:
                    if name == deal.swap.strangers[0] and (low is None or total >= low):
                        fit.append(number)
                    if name == deal.swap.strangers[1] and (high is None or total <= high):
                        fit.append(number)
            if fit:
                row.append(fit[0])
                break
        else:
            return tuple(row), True
    return tuple(row), False


class WrongValuesTest(Case):
    def test_wrong_values(self):
        for work in (lane, filled):
            self.check_each_raises(BadDeal("deal"), NO_DEALS, lambda value: work(deal=value))
            self.check_raises(NotTwo(3), work, Deal(THREE, Bounds.zero(3), [(0, 1)]))
            self.check_raises(NotEven(1), work, Deal(Swap.read("a b | a b 2 2 | b a 1 2 | b a 1 2"), WIDE, [(0, 1)]))
        for work in (grain, enough_width):
            self.check_each_raises(BadSwap("swap"), NO_SWAPS, lambda value: work(swap=value))
            self.check_raises(NotTwo(3), work, THREE)
            self.check_raises(NotTwo(6), work, Swap.ring("a", "b", "c", "d", "e", "f"))
            self.check_raises(NotEven(0), work, CUP)
        self.check_raises(Leans(0, 2), filled, Deal(LOADS, Bounds.zero(2), [(2, 1), (0, 2)]))
        self.assertEqual((Ratio(0), Ratio(0)), lane(Deal(LOADS, Bounds.zero(2), [(2, 1), (0, 2)])))

    def test_wrong_numbers(self):
        for value in [*NO_NUMBERS, 0, -1]:
            self.check_raises(BadNumber("p"), hardest, value, None)
            self.check_raises(BadNumber("q"), hardest, q=value, p=1)
        self.check_raises(NotCoprime(6, 4), hardest, 6, 4)
        self.check_raises(NotCoprime(2, 2), hardest, 2, 2)
        self.check_raises(NotCoprime(10 ** 40, 10 ** 39), hardest, 10 ** 40, 10 ** 39)
        for p, q in ((40, 1), (1, 40), (20, 21), (10 ** 40, 1), (10 ** 40, 10 ** 40 + 1)):
            self.check_raises(TooMany("hands", 40), hardest, p=p, q=q)
        for p, q in ((39, 1), (1, 39), (21, 19)):
            self.assertEqual(40, len(hardest(p, q)))


class LaneTest(Case):
    def test_ends_that_are_left_out(self):
        for trusts, pledges, ends in [
            ((None, None), (None, None), (None, None)), ((3, None), (None, None), (Ratio(-3), None)),
            ((None, 3), (None, None), (None, Ratio(3))), ((None, None), (3, None), (None, Ratio(3))),
            ((None, None), (None, 3), (Ratio(-3), None)), ((1, 2), (3, 4), (Ratio(-1), Ratio(2))),
            ((5, 6), (3, 4), (Ratio(-4), Ratio(3))),
        ]:
            self.check_same(ends, lane(Deal(LOADS, Bounds(trusts, pledges))))

    def test_a_done_set_is_allowed_just_if_the_first_ones_sum_lies_in_the_lane(self):
        rnd = random.Random(341)
        for _ in range(150):
            swap = even_swap(rnd, 6)
            deal = Deal(swap, Bounds([random_bound(rnd), random_bound(rnd)], [random_bound(rnd), random_bound(rnd)]))
            low, high = lane(deal)
            self.assertEqual(plain_lane(deal), tuple(None if one is None else as_fraction(one) for one in (low, high)))
            for done in all_sets(len(swap)):
                total = plain_sums(swap, done)[0]
                inside = (low is None or total >= as_fraction(low)) and (high is None or total <= as_fraction(high))
                self.assertIs(plain_allowed(deal, done), inside)


class GrainTest(Case):
    def test_a_grain_of_0(self):
        self.check_same((Ratio(0), Ratio(0)), (grain(NO_HANDS), enough_width(NO_HANDS)))
        zeros = Swap.read("a b | a b 0 0 | b a 0 0")
        self.check_same((Ratio(0), Ratio(0)), (grain(zeros), enough_width(zeros)))

    def test_prices_with_unlike_bottoms(self):
        swap = Swap.read("a b | a b 3/4 3/4 | b a 5/6 5/6 | a b 0 0")
        self.check_same((Ratio(1, 12), Ratio(3, 4) + Ratio(5, 6) - Ratio(1, 12)), (grain(swap), enough_width(swap)))
        self.check_same(Ratio(2, 5), grain(Swap.read("a b | a b 2 2 | b a 4/5 4/5")))

    def test_by_trying(self):
        rnd = random.Random(342)
        for _ in range(100):
            swap = even_swap(rnd)
            prices = [as_fraction(hand.cost) for hand in swap]
            up = max([as_fraction(hand.cost) for hand in swap if hand.giver == "bob"], default=0)
            down = max([as_fraction(hand.cost) for hand in swap if hand.giver == "ann"], default=0)
            self.assertEqual(plain_grain(prices), as_fraction(grain(swap)))
            self.assertEqual(up + down - plain_grain(prices), as_fraction(enough_width(swap)))


class FilledTest(Case):
    def test_papers(self):
        found = filled(Deal(LOADS, Bounds.alike(2, 1, 1)))
        self.assertIs(Filled, type(found))
        self.check_same((True, "filled", (0, 2, 1)), (bool(found), found.word, found.row))
        outside = filled(Deal(Swap.read("a b | b a 3 3"), Bounds.alike(2, 1, 1)))
        self.assertIs(Outside, type(outside))
        self.check_same((False, "outside", 0), (bool(outside), outside.word, outside.moment))
        halted = filled(Deal(LOADS, Bounds.zero(2)))
        self.assertIs(Halted, type(halted))
        self.check_same((False, "halted", ()), (bool(halted), halted.word, halted.row))
        self.assertEqual(((1,), (2,), (None,)), (Filled(row=1).parts, Outside(moment=2).parts, Halted(row=None).parts))

    def test_no_hand_over(self):
        self.check_same((), filled(Deal(NO_HANDS, Bounds.zero(2))).row)

    def test_outside_at_moment_0_first(self):
        both = Swap.read("a b | b a 3 3")
        self.check_same(0, filled(Deal(both, Bounds([0, None], [None, 2]))).moment)
        self.check_same(1, filled(Deal(both, Bounds([0, 2], [None, None]))).moment)
        self.check_same(0, filled(Deal(both, Bounds([0, 2], [None, 2]))).moment)

    def test_by_plain_filling(self):
        rnd = random.Random(343)
        kinds = set()
        for _ in range(400):
            swap = even_swap(rnd)
            deal = Deal(swap, Bounds([random_bound(rnd), random_bound(rnd)], [random_bound(rnd), random_bound(rnd)]))
            low, high = plain_lane(deal)
            out = [moment for moment in (0, len(swap))
                   if (low is not None and plain_sums(swap, range(moment))[0] < low)
                   or (high is not None and plain_sums(swap, range(moment))[0] > high)]
            found = filled(deal)
            kinds.add(type(found))
            if out:
                self.assertEqual(Outside(out[0]), found)
            else:
                row, halts = plain_filling(deal)
                self.assertEqual(Halted(row) if halts else Filled(row), found)
                if not halts:
                    self.assertTrue(all(plain_allowed(deal, row[:k]) for k in range(len(row) + 1)))
        self.assertEqual({Filled, Outside, Halted}, kinds)

    def test_it_halts_in_no_lane_that_is_wide_enough(self):
        rnd = random.Random(344)
        just, less = 0, 0
        for _ in range(600):
            swap = even_swap(rnd, 8, lambda told: Ratio(told.randrange(7), told.choice([1, 2])))
            step, net = as_fraction(grain(swap)), plain_sums(swap, range(len(swap)))[0]
            low = Fraction(min(0, net)) - Fraction(rnd.randrange(9), 3)
            high = Fraction(max(0, net)) + Fraction(rnd.randrange(9), 3)
            deal = Deal(swap, Bounds([Ratio(*(-low).as_integer_ratio()), Ratio(*high.as_integer_ratio())], [None, None]))
            wide = step == 0
            if not wide:
                inward = (high // step) * step + (-low // step) * step
                wide = inward >= as_fraction(enough_width(swap))
                just += inward == as_fraction(enough_width(swap))
            if wide:
                self.assertIs(Filled, type(filled(deal)))
            else:
                less += type(filled(deal)) is Halted
        self.assertGreater(just, 5)
        self.assertGreater(less, 5)

    def test_it_halts_in_no_lane_that_is_open(self):
        rnd = random.Random(345)
        for _ in range(100):
            swap = even_swap(rnd)
            net = plain_sums(swap, range(len(swap)))[0]
            down, up = Ratio(*abs(min(0, net)).as_integer_ratio()), Ratio(*max(0, net).as_integer_ratio())
            self.assertIs(Filled, type(filled(Deal(swap, Bounds([None, up], [None, None])))))
            self.assertIs(Filled, type(filled(Deal(swap, Bounds([down, None], [None, None])))))

    def test_40_hand_overs(self):
        swap = hardest(19, 21)
        self.assertEqual(40, len(filled(Deal(swap, Bounds([0, 39], [39, 0]))).row))
        self.assertIs(Halted, type(filled(Deal(swap, Bounds([0, 38], [38, 0])))))


class HardestTest(Case):
    def test_who_gives_what(self):
        swap = hardest(2, 3)
        self.assertEqual("one other" + " | other one 3 3" * 2 + " | one other 2 2" * 3, str(swap))
        self.assertEqual("one other | other one 1 1 | one other 1 1", str(hardest(1, 1)))

    def test_sums_are_all_different(self):
        rnd = random.Random(346)
        for p, q in ((1, 1), (1, 6), (2, 3), (5, 3), (7, 4), (19, 21)):
            swap = hardest(p, q)
            for _ in range(10):
                row = rnd.sample(range(p + q), p + q)
                totals = [plain_sums(swap, row[:moment])[0] for moment in range(p + q)]
                self.assertEqual(p + q, len(set(totals)))
                self.assertTrue(all(total.denominator == 1 for total in totals))

    def test_a_good_row_needs_a_lane_of_just_this_and_has_one_but_for_like_things(self):
        for p, q in ((1, 1), (1, 4), (2, 3), (4, 3), (5, 7)):
            swap = hardest(p, q)
            self.assertEqual(p + q - 1, enough_width(swap))
            for low in range(-(p + q - 1), 1):
                deal = Deal(swap, Bounds([-low, low + p + q - 1], [None, None]))
                self.assertEqual(Kinds(swap).orders, count_by_kinds(deal))
                self.assertIs(Filled, type(filled(deal)))
                if low + p + q - 1 > 0:
                    self.assertEqual(0, count_by_kinds(Deal(swap, Bounds([-low, low + p + q - 2], [None, None]))))


if __name__ == "__main__":
    unittest.main()
