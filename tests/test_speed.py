"""Answers at the largest sizes, and refusals by size, come in a short time."""

import random
import time
import unittest

from lastgiver.bounds import Bounds
from lastgiver.chains import enough, finish
from lastgiver.check_plays import shows_played, shows_played_groups, shows_season
from lastgiver.check_rows import shows_good, shows_stuck, shows_stuck_kinds
from lastgiver.deals import Deal, allowed_sets
from lastgiver.errors import Ring, TooMany
from lastgiver.even import enough_width, filled, grain
from lastgiver.group_plays import played_groups
from lastgiver.kind_rows import StuckKinds, count_by_kinds, find_by_kinds
from lastgiver.kinds import Kinds
from lastgiver.leanings import Leanings
from lastgiver.numbered import Rows
from lastgiver.plays import played, tempted
from lastgiver.ratios import Ratio
from lastgiver.reached import firsts, lasts, live, reached
from lastgiver.roads import chest, enough_bounds, from_here, off, rank
from lastgiver.rows import Good, Stuck, find_row, forced
from lastgiver.seasons import season, unrolled
from lastgiver.starts import bound_to, spared
from lastgiver.sums import along, done_sets, sums
from lastgiver.swaps import HandOver, Swap
from lastgiver.turned_deals import exchanged, handed_back_deal, rest_deal
from lastgiver.two_sides import two_sides
from lastgiver.walked import RowWalk

from support import Case

NAMES = ("ann", "bob", "cay", "dan", "eve", "fay")


def large(rnd):
    """A ratio of 30 digits above and below."""
    return Ratio(rnd.randrange(10 ** 29, 10 ** 30), rnd.randrange(10 ** 29, 10 ** 30))


def large_swap(rnd, many):
    """So many hand-overs, each of large ratios, among six strangers."""
    return Swap(NAMES, [HandOver(*rnd.sample(NAMES, 2), large(rnd), large(rnd)) for _ in range(many)])


class SpeedTest(Case):
    def setUp(self):
        self.began = time.perf_counter()

    def tearDown(self):
        self.assertLess(time.perf_counter() - self.began, 10)

    def test_12_hand_overs(self):
        rnd = random.Random(111)
        swap = large_swap(rnd, 12)
        for bounds in (Bounds.alike(6, 1000, 1000), Bounds([large(rnd) * 4 for _ in NAMES], [large(rnd) * 4 for _ in NAMES])):
            for deal in (Deal(swap, bounds), exchanged(Deal(swap, bounds, [(0, 11), (3, 4)]))):
                found = find_row(deal)
                for work in (reached, live, firsts, lasts, forced, count_by_kinds, allowed_sets):
                    if work is not count_by_kinds or len(deal.leanings) == 0:
                        work(deal)
                rows = Rows(deal)
                self.assertEqual(bool(found), bool(rows))
                self.assertEqual(min(2000, rows.count), len(list(rows.in_order(2000))))
                sets = reached(deal)[:-1] if found else found.sets
                self.assertIs(not found, shows_stuck(deal, Stuck(sets)))

    def test_few_reached_sets_of_12_hand_overs(self):
        deal = Deal(Swap.read("a b" + " | a b 1 2" * 12), Bounds.alike(2, 1, 99))
        for work, many in ((reached, 13), (live, 0), (firsts, 0), (lasts, 0)):
            for _ in range(1000):
                self.assertEqual(many, len(work(deal)))
        self.assertLess(time.perf_counter() - self.began, 4)

    def test_short_answers_on_12_hand_overs(self):
        rnd = random.Random(116)
        hands = [HandOver(*rnd.sample(NAMES, 2), rnd.randrange(9), rnd.randrange(9)) for _ in range(12)]
        for bounds in (Bounds.alike(6, 1000, 1000), Bounds.alike(6, 12, 12)):
            for _ in range(200):
                firsts(Deal(Swap(NAMES, hands), bounds))
                lasts(Deal(Swap(NAMES, hands), bounds))
        self.assertLess(time.perf_counter() - self.began, 4)

    def test_40_hand_overs(self):
        rnd = random.Random(112)
        swap = large_swap(rnd, 40)
        pairs = [(e, f) for e in range(40) for f in range(e + 1, 40)]
        deal = Deal(swap, Bounds.alike(6, 10 ** 4, 10 ** 4), pairs)
        row = tuple(range(40))
        self.assertTrue(RowWalk(deal, row).is_good)
        self.assertTrue(shows_good(deal, Good(row)))
        self.assertEqual(41, len(list(along(swap, row))))
        self.assertEqual(swap.nets, sums(swap, row))
        self.assertEqual(40, len(Kinds(swap)))
        self.assertEqual((0,), deal.moves([]))
        self.assertEqual(deal, handed_back_deal(handed_back_deal(deal)))
        self.assertEqual(20, len(rest_deal(deal, list(range(20)))))
        self.assertEqual(tuple(range(39)), Leanings(40, pairs).ahead_of(39))
        self.check_raises(Ring(0, (0, 39)), Leanings, 40, [*pairs, (39, 0)])

    def test_plays_of_40_hand_overs(self):
        rnd = random.Random(117)
        swap = large_swap(rnd, 40)
        row = tuple(range(40))
        for careful in (False, True):
            deal = Deal(swap, Bounds([large(rnd) for _ in NAMES], [large(rnd) for _ in NAMES]))
            found = played(deal, row, careful)
            self.assertTrue(shows_played(deal, found, careful))
            self.assertEqual(len(list(tempted(deal, row))), len(list(tempted(deal, list(row)))))
            groups = played_groups(deal, [[number, number + 20] for number in range(20)], careful)
            self.assertTrue(shows_played_groups(deal, groups, careful))

    def test_24_weeks(self):
        rnd = random.Random(118)
        swap = large_swap(rnd, 40)
        q = Ratio(10 ** 29 + 7, 10 ** 30 - 1)
        found = season(swap, tuple(range(40)), q, 24)
        self.assertTrue(shows_season(swap, q, 24, found))
        self.assertEqual(40, len(unrolled(large_swap(rnd, 10), tuple(range(10)), q, 4)[0]))

    def test_roads_of_40_hand_overs(self):
        rnd = random.Random(119)
        swap = large_swap(rnd, 40)
        self.assertEqual(6, rank(swap).number)
        self.assertEqual(6, len(enough_bounds(swap)))
        self.assertEqual(6, len(from_here(swap, (3, 5))))
        self.assertEqual(2, len(chest(swap, (3, 5))))
        self.assertEqual(40, len(off(swap)))
        many = Swap(NAMES, [hand if place % 2 else hand.returned() for place, hand in enumerate(swap)])
        name = NAMES[[net.sign >= 0 for net in many.nets].index(True)]
        self.assertEqual((40, 40), (len(spared(many, tuple(range(40)), name)), len(bound_to(many, tuple(range(40)), name))))

    def test_chains_of_20_hand_overs_and_six_strangers(self):
        rnd = random.Random(120)
        for _ in range(3):
            self.assertEqual(21 - 6, len(enough(large_swap(rnd, 20)).weights))
            self.assertEqual(20, len(finish(large_swap(rnd, 30), tuple(range(10)))))

    def test_many_small_chains(self):
        rnd = random.Random(121)
        for _ in range(200):
            hands = [HandOver(*rnd.sample(NAMES, 2), rnd.randrange(9), rnd.randrange(9)) for _ in range(12)]
            enough(Swap(NAMES, hands))

    def test_even_prices_of_40_hand_overs(self):
        rnd = random.Random(122)
        hands = []
        for _ in range(40):
            worth = large(rnd)
            hands.append(HandOver(*rnd.sample(NAMES[:2], 2), worth, worth))
        deal = Deal(Swap(NAMES[:2], hands), Bounds.alike(2, 10 ** 4, 10 ** 4))
        self.assertEqual(40, len(filled(deal).row))
        self.assertEqual(1, (enough_width(deal.swap) + grain(deal.swap)).sign)

    def test_refusals_by_size(self):
        swap = large_swap(random.Random(113), 40)
        deal = Deal(swap, Bounds.alike(6, None, None))
        for work in (reached, live, firsts, lasts, find_row, forced, Rows, allowed_sets):
            self.check_raises(TooMany("hands", 12), work, deal)
        for work in (find_by_kinds, count_by_kinds):
            self.check_raises(TooMany("counts", 4096), work, deal)
        self.check_raises(TooMany("hands", 20), enough, swap)
        self.check_raises(TooMany("weeks", 24), season, swap, tuple(range(40)), Ratio(1, 3), 10 ** 30)
        self.check_raises(TooMany("hands", 12), lambda: list(done_sets(swap)))

    def test_4096_counts(self):
        rnd = random.Random(114)
        hands = [HandOver("ann", "bob", large(rnd), large(rnd)) for _ in range(4)]
        back = [HandOver("bob", "ann", large(rnd), large(rnd)) for _ in range(2)]
        swap = Swap(NAMES, [*hands, *back] * 3)
        deal = Deal(swap, Bounds.alike(6, None, None))
        self.assertEqual(18, len(find_by_kinds(deal).row))
        counts = [(a, b, c, d, e, f) for a in range(4) for b in range(4) for c in range(4)
                  for d in range(4) for e in range(4) for f in range(4)]
        self.assertEqual(4096, len(counts))
        ordered = sorted(counts, key=lambda told: (sum(told), told))
        self.assertFalse(shows_stuck_kinds(deal, StuckKinds(ordered[:-1])))

    def test_500_things_of_each_side(self):
        rnd = random.Random(115)
        one, other = HandOver("ann", "bob", large(rnd), large(rnd)), HandOver("bob", "ann", large(rnd), large(rnd))
        self.assertEqual(1000, len(two_sides(one, 500, other, 500, Bounds.alike(2, None, None)).row))

    def test_long_texts(self):
        hands = [HandOver(*NAMES[:2], Ratio(10 ** 59 + 1, 10 ** 59), 1)] * 40
        pairs = [(e, f) for e in range(40) for f in range(e + 1, 40)]
        deal = Deal(Swap(NAMES, hands), Bounds.alike(6, None, None), pairs)
        self.assertEqual(deal, Deal.read(str(deal)))


if __name__ == "__main__":
    unittest.main()
