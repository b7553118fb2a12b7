"""Answers on ways, keepers and laid pledges at the largest sizes, and refusals by size, come in a short time."""

import random
import time
import unittest

from lastgiver.bounds import Bounds
from lastgiver.check_groups import shows_behind, shows_few, shows_most, shows_narrow, shows_parting
from lastgiver.check_hands import hand_moments, shows_held, shows_least_laid, shows_least_purse, shows_reliers
from lastgiver.deals import Deal
from lastgiver.errors import TooMany
from lastgiver.groups import fewest_groups, least_group, most_groups
from lastgiver.held_ways import count_held, held_way
from lastgiver.keepers import Keeper, Keepers
from lastgiver.laid import laid, least_laid, shifted, span
from lastgiver.purses import least_purse, reliers
from lastgiver.swaps import HandOver, Swap
from lastgiver.together import behind, classes, never_behind, parting
from lastgiver.ways import Way, count_ways

from support import Case
from test_speed import NAMES, large, large_swap

FOUR = ("k", "l", "m", "n")


def tight(swap, more=0):
    """Bounds that are little more than a way needs."""
    told = [(-net if net.sign < 0 else net * 0) + more for net in swap.nets]
    return Bounds(told, told)


class SpeedTest(Case):
    def setUp(self):
        self.began = time.perf_counter()

    def tearDown(self):
        self.assertLess(time.perf_counter() - self.began, 5)

    def deals(self, rnd, many):
        """Deals of so many hand-overs and large ratios, all, some, or nearly no sets allowed."""
        swap = large_swap(rnd, many)
        leanings = [(0, many - 1), (2, 1)]
        return [
            Deal(swap, Bounds.alike(6, None, None)), Deal(swap, tight(swap, 5), leanings), Deal(swap, tight(swap)),
        ]

    def test_ways_of_8_hand_overs(self):
        for deal in self.deals(random.Random(131), 8):
            self.assertGreater(count_ways(deal), 0)
            self.assertEqual(1, count_ways(deal, 8) - count_ways(deal, 7))
            self.assertTrue(shows_most(deal, most_groups(deal)))
            found = least_group(deal)
            self.assertTrue(shows_narrow(deal, found))
            self.assertTrue(shows_few(deal, found.number, fewest_groups(deal, found.number)))
            self.assertEqual(8, sum(map(len, Way(deal, [list(range(8))]).refined())))
            self.assertEqual(8, sum(map(len, classes(deal))))
            for e, f in ((0, 7), (7, 0), (3, 4)):
                self.assertIs((e, f) in never_behind(deal), not behind(deal, e, f))
                self.assertTrue(shows_behind(deal, e, f, behind(deal, e, f)))
                self.assertTrue(shows_parting(deal, e, f, parting(deal, e, f)))

    def test_a_way_of_40_hand_overs(self):
        deal = self.deals(random.Random(132), 40)[0]
        way = Way(deal, [[number, number + 20] for number in range(20)])
        self.assertEqual(19, len(way.merged(7)))
        self.assertEqual(40, len(Way(deal, [[number] for number in range(40)]).as_row()))

    def test_four_keepers_of_8_hand_overs(self):
        rnd = random.Random(133)
        for deal in self.deals(rnd, 8):
            worths = [large(rnd) for _ in range(8)]
            for purse in (0, 3, 100):
                keepers = Keepers(deal.swap, worths, *[Keeper(name, large(rnd) * purse, *NAMES) for name in FOUR])
                found = held_way(deal, keepers)
                self.assertTrue(shows_held(deal, keepers, found))
                self.assertIs(bool(found), count_held(deal, keepers) > 0)
                told = least_purse(deal, keepers, "m")
                self.assertTrue(shows_least_purse(deal, keepers, "m", told))
                if found:
                    self.assertGreaterEqual(len(list(hand_moments(deal, keepers, found))), 8)

    def test_reliers_of_6_hand_overs_and_6_strangers(self):
        rnd = random.Random(134)
        for deal in self.deals(rnd, 6):
            keepers = Keepers(deal.swap, [large(rnd) for _ in range(6)], *[Keeper(name, 100, *NAMES[:3]) for name in FOUR])
            found = reliers(deal, keepers, "m")
            self.assertTrue(shows_reliers(deal, keepers, "m", found))

    def test_laid_pledges(self):
        rnd = random.Random(135)
        swap = large_swap(rnd, 6)
        for deal in (*self.deals(rnd, 6), Deal(swap, Bounds([None] * 6, tight(swap).pledges))):
            for name in NAMES:
                self.assertTrue(shows_least_laid(deal, name, least_laid(deal, name)))
        swap = Swap(NAMES[:5], [HandOver(*rnd.sample(NAMES[:5], 2), large(rnd), large(rnd)) for _ in range(30)])
        deal = Deal(swap, Bounds.alike(5, 10 ** 4, 10 ** 4))
        amounts = {name: large(rnd) for name in NAMES[:5]}
        self.assertEqual(40, len(laid(deal, "kin", amounts)))
        self.assertEqual(5, len(shifted(deal, amounts).bounds))
        self.assertEqual(span(deal, tuple(range(30)), "ann"), span(shifted(deal, amounts), list(range(30)), "ann"))

    def test_refusals_by_size(self):
        deal = self.deals(random.Random(136), 40)[0]
        keepers = Keepers(deal.swap, [1] * 40, Keeper("kin", 3, *NAMES))
        for work in (count_ways, classes, never_behind, most_groups, least_group):
            self.check_raises(TooMany("hands", 8), work, deal)
        self.check_raises(TooMany("hands", 8), Way(deal, [list(range(40))]).refined)
        self.check_raises(TooMany("hands", 8), fewest_groups, deal, 3)
        for work in (parting, behind):
            self.check_raises(TooMany("hands", 8), work, deal, 0, 39)
        for work in (held_way, count_held):
            self.check_raises(TooMany("hands", 8), work, deal, keepers)
        self.check_raises(TooMany("hands", 8), least_purse, deal, keepers, "kin")
        self.check_raises(TooMany("hands", 6), reliers, deal, keepers, "kin")
        self.check_raises(TooMany("hands", 6), least_laid, deal, "ann")
        self.check_raises(TooMany("strangers", 6), laid, deal, "kin", {})


if __name__ == "__main__":
    unittest.main()
