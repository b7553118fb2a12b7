"""Seasons, and swaps unrolled."""

import random
import unittest
from fractions import Fraction

from lastgiver.bounds import Bounds
from lastgiver.deals import Deal
from lastgiver.errors import BadNumber, BadRow, BadShare, BadSwap, TooMany
from lastgiver.plays import played
from lastgiver.ratios import Ratio
from lastgiver.seasons import Season, season, unrolled
from lastgiver.swaps import HandOver, Swap

from support import (
    CUP, NO_HANDS, NO_NUMBERS, NO_ROWS, NO_SHARES, NO_SWAPS, Case, as_fraction, line, plain_sums, random_swap,
)

# Things that cost nothing, at the beginning of the last week, can hold the weeks before it.
FREE = Swap.read("ann bob | ann bob 0 1 | bob ann 0 1 | ann bob 1/2 3 | bob ann 1/2 3")


def plain_season(swap, row, q, weeks):
    """Whether each giver leaves, and the outcomes, as Fractions."""
    nets = plain_sums(swap, row)
    later = [Fraction(0)] * len(nets)
    leaves, outcomes = [], []
    for week in reversed(range(weeks)):
        told = [[net + as_fraction(q) * more for net, more in zip(nets, later)]]
        left = []
        for moment in reversed(range(len(row))):
            place = swap.strangers.index(swap.hands[row[moment]].giver)
            sums = plain_sums(swap, row[:moment])
            left.insert(0, sums[place] > told[0][place])
            told.insert(0, sums if left[0] else told[0])
        later = told[0]
        leaves.insert(0, tuple(left))
        outcomes.insert(0, tuple(tuple(Ratio(one.numerator, one.denominator) for one in row) for row in told))
    return tuple(leaves), tuple(outcomes)


def random_season(rnd):
    """A swap, with things that cost nothing among others, a row and a share."""
    swap = random_swap(rnd, rnd.choice([2, 3]), rnd.randrange(6))
    hands = [HandOver(hand.giver, hand.taker, rnd.choice([0, hand.cost]), hand.gain + 1) for hand in swap]
    swap = Swap(swap.strangers, hands)
    return swap, tuple(rnd.sample(range(len(swap)), len(swap))), Ratio(rnd.randrange(1, 5), 4)


class WrongValuesTest(Case):
    def test_wrong_values(self):
        for work in (season, unrolled):
            self.check_each_raises(BadSwap("swap"), NO_SWAPS, lambda value: work(value, None, None, None))
            self.check_each_raises(BadRow("row"), NO_ROWS, lambda value: work(CUP, value, None, None))
            self.check_each_raises(BadShare("q"), NO_SHARES, lambda value: work(CUP, (0, 1), value, None))
            for value in [*NO_NUMBERS, 0, -1]:
                self.check_raises(BadNumber("weeks"), work, swap=CUP, row=[0, 1], q=1, weeks=value)

    def test_24_weeks_and_25(self):
        for weeks in (25, 10 ** 30):
            for work in (season, unrolled):
                self.check_raises(TooMany("weeks", 24), work, CUP, (0, 1), Ratio(1, 2), weeks)
                self.check_raises(TooMany("weeks", 24), work, NO_HANDS, (), 0, weeks)
        found = season(FREE, (0, 1, 2, 3), Ratio(1, 2), 24)
        self.check_same(plain_season(FREE, (0, 1, 2, 3), Ratio(1, 2), 24), (found.leaves, found.outcomes))
        self.assertEqual(0, len(unrolled(NO_HANDS, (), 0, 24)[0]))

    def test_40_hand_overs_unrolled_and_41(self):
        swap, row = unrolled(Swap(CUP.strangers, CUP.hands * 2), (3, 2, 1, 0), 1, 10)
        self.assertEqual(CUP.hands * 20, swap.hands)
        self.assertEqual(tuple(week * 4 + number for week in range(10) for number in (3, 2, 1, 0)), row)
        self.check_raises(TooMany("hands", 40), unrolled, CUP, (0, 1), 1, 21)
        self.check_raises(TooMany("hands", 40), unrolled, Swap(CUP.strangers, CUP.hands + CUP.hands[:1]), (0, 1, 2), 1, 14)
        self.assertEqual(39, len(unrolled(Swap(CUP.strangers, CUP.hands + CUP.hands[:1]), (0, 1, 2), 1, 13)[0]))
        self.assertEqual(24, len(season(Swap(CUP.strangers, CUP.hands * 20), list(range(40)), 1, 24).leaves))


class SeasonTest(Case):
    def test_one_week(self):
        found = season(CUP, [1, 0], 1, 1)
        self.assertIs(Season, type(found))
        self.check_same(((1, 0), ((True, True),), ((line(0, 0), line(3, -2), line(1, 1)),)), found.parts)
        self.check_same(("season", (1, 0), ((True, True),)), (found.word, found.row, found.leaves))
        by_row = played(Deal(CUP, Bounds.zero(2)), (1, 0))
        self.assertEqual((by_row.leaves, by_row.outcomes), (found.leaves[0], found.outcomes[0]))

    def test_no_hand_over(self):
        found = season(NO_HANDS, (), Ratio(1, 2), 3)
        self.check_same(((), ((), (), ()), ((line(0, 0),),) * 3), found.parts)

    def test_shares_0_and_1(self):
        found = season(FREE, (0, 1, 2, 3), 0, 3)
        self.assertEqual(found.leaves[:1] * 3, found.leaves)
        self.assertEqual(found.outcomes[:1] * 3, found.outcomes)
        self.check_same((False, False, False, False), season(FREE, (0, 1, 2, 3), 1, 2).leaves[0])
        swap, row = unrolled(FREE, (0, 1, 2, 3), 0, 2)
        self.assertEqual("ann bob 0 0", str(swap[4]))
        self.assertEqual(FREE.hands, swap.hands[:4])
        self.assertEqual((0, 1, 2, 3, 4, 5, 6, 7), row)

    def test_by_plain_play(self):
        rnd = random.Random(251)
        for _ in range(150):
            swap, row, q = random_season(rnd)
            weeks = rnd.randrange(1, 5)
            found = season(swap, row, q, weeks)
            self.check_same((row, *plain_season(swap, row, q, weeks)), found.parts)

    def test_a_season_is_the_plain_play_of_its_unrolled_row(self):
        rnd = random.Random(252)
        held = 0
        for _ in range(150):
            swap, row, q = random_season(rnd)
            weeks = rnd.randrange(1, 5)
            found = season(swap, row, q, weeks)
            wide, long_row = unrolled(swap, row, q, weeks)
            by_row = played(Deal(wide, Bounds.zero(len(swap.strangers))), long_row)
            self.assertEqual(tuple(one for week in found.leaves for one in week), by_row.leaves)
            held += by_row.moment > len(row) > 0
            nets = [as_fraction(net) for net in swap.nets]
            for week in range(weeks):
                power = as_fraction(q) ** week
                ahead = [net * sum(as_fraction(q) ** early for early in range(week)) for net in nets]
                for moment in range(len(row) + 1):
                    told = [as_fraction(one) for one in by_row.outcomes[week * len(row) + moment]]
                    told_here = [as_fraction(one) for one in found.outcomes[week][moment]]
                    if moment < len(row) or week == weeks - 1:
                        self.assertEqual(told, [one * power + more for one, more in zip(told_here, ahead)])
        self.assertGreater(held, 10)

    def test_the_last_weeks_are_the_season_of_so_many_weeks(self):
        rnd = random.Random(253)
        for _ in range(60):
            swap, row, q = random_season(rnd)
            whole, part = season(swap, row, q, 5), season(swap, row, q, 2)
            self.assertEqual((part.leaves, part.outcomes), (whole.leaves[-2:], whole.outcomes[-2:]))

    def test_if_each_hand_over_costs_something_nothing_is_ever_handed_over(self):
        rnd = random.Random(254)
        for _ in range(60):
            swap, row, q = random_season(rnd)
            swap = Swap(swap.strangers, [HandOver(hand.giver, hand.taker, hand.cost + Ratio(1, 9), hand.gain) for hand in swap])
            if row:
                self.assertIs(True, season(swap, row, q, rnd.randrange(1, 8)).leaves[0][0])


if __name__ == "__main__":
    unittest.main()
