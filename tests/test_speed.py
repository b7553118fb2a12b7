"""Answers at the largest sizes, and refusals by size, come in a short time."""

import random
import time
import unittest

from lastgiver.bounds import Bounds
from lastgiver.chains import enough, finish
from lastgiver.check_enough import shows_enough, shows_rank
from lastgiver.check_least import shows_front, shows_least, shows_patience
from lastgiver.check_pieces import shows_enough_pieces, shows_fewest_pieces, shows_fine, shows_least_pieces, shows_pieced
from lastgiver.check_plays import shows_played, shows_played_groups, shows_season
from lastgiver.check_rows import shows_good, shows_stuck, shows_stuck_kinds
from lastgiver.deals import Deal, allowed_sets
from lastgiver.dials import Dial
from lastgiver.errors import Ring, TooMany
from lastgiver.even import enough_width, filled, grain
from lastgiver.fine import fine, sources
from lastgiver.fitting import enough_pieces, fewest_pieces, least_pieces
from lastgiver.fronts import front
from lastgiver.group_plays import played_groups
from lastgiver.kind_rows import StuckKinds, count_by_kinds, find_by_kinds
from lastgiver.kinds import Kinds
from lastgiver.leanings import Leanings
from lastgiver.least import least
from lastgiver.numbered import Rows
from lastgiver.patience import patience
from lastgiver.pieces import pieced
from lastgiver.plays import played, tempted
from lastgiver.ratios import Ratio
from lastgiver.reached import firsts, lasts, live, reached
from lastgiver.roads import chest, enough_bounds, from_here, off, rank
from lastgiver.rows import Good, Stuck, find_row, forced
from lastgiver.seasons import season, unrolled
from lastgiver.starts import bound_to, spared
from lastgiver.sums import along, done_sets, sums
from lastgiver.swaps import HandOver, Swap
from lastgiver.turned_deals import exchanged, handed_back_deal, rest_deal
from lastgiver.two_sides import two_sides
from lastgiver.walked import RowWalk

from support import Case

NAMES = ("ann", "bob", "cay", "dan", "eve", "fay")


def large(rnd):
    """A ratio of 30 digits above and below."""
    return Ratio(rnd.randrange(10 ** 29, 10 ** 30), rnd.randrange(10 ** 29, 10 ** 30))


def large_swap(rnd, many):
    """So many hand-overs, each of large ratios, among six strangers."""
    return Swap(NAMES, [HandOver(*rnd.sample(NAMES, 2), large(rnd), large(rnd)) for _ in range(many)])


class SpeedTest(Case):
    def setUp(self):
        self.began = time.perf_counter()

    def tearDown(self):
        self.assertLess(time.perf_counter() - self.began, 10)

    def test_12_hand_overs(self):
        rnd = random.Random(111)
        swap = large_swap(rnd, 12)
        for bounds in (Bounds.alike(6, 1000, 1000), Bounds([large(rnd) * 4 for _ in NAMES], [large(rnd) * 4 for _ in NAMES])):
            for deal in (Deal(swap, bounds), exchanged(Deal(swap, bounds, [(0, 11), (3, 4)]))):
                found = find_row(deal)
                for work in (reached, live, firsts, lasts, forced, count_by_kinds, allowed_sets):
                    if work is not count_by_kinds or len(deal.leanings) == 0:
                        work(deal)
                rows = Rows(deal)
                self.assertEqual(bool(found), bool(rows))
                self.assertEqual(min(2000, rows.count), len(list(rows.in_order(2000))))
                sets = reached(deal)[:-1] if found else found.sets
                self.assertIs(not found, shows_stuck(deal, Stuck(sets)))

    def test_few_reached_sets_of_12_hand_overs(self):
        deal = Deal(Swap.read("a b" + " | a b 1 2" * 12), Bounds.alike(2, 1, 99))
        for work, many in ((reached, 13), (live, 0), (firsts, 0), (lasts, 0)):
            for _ in range(1000):
                self.assertEqual(many, len(work(deal)))
        self.assertLess(time.perf_counter() - self.began, 4)

    def test_short_answers_on_12_hand_overs(self):
        rnd = random.Random(116)
        hands = [HandOver(*rnd.sample(NAMES, 2), rnd.randrange(9), rnd.randrange(9)) for _ in range(12)]
        for bounds in (Bounds.alike(6, 1000, 1000), Bounds.alike(6, 12, 12)):
            for _ in range(200):
                firsts(Deal(Swap(NAMES, hands), bounds))
                lasts(Deal(Swap(NAMES, hands), bounds))
        self.assertLess(time.perf_counter() - self.began, 4)

    def test_40_hand_overs(self):
        rnd = random.Random(112)
        swap = large_swap(rnd, 40)
        pairs = [(e, f) for e in range(40) for f in range(e + 1, 40)]
        deal = Deal(swap, Bounds.alike(6, 10 ** 4, 10 ** 4), pairs)
        row = tuple(range(40))
        self.assertTrue(RowWalk(deal, row).is_good)
        self.assertTrue(shows_good(deal, Good(row)))
        self.assertEqual(41, len(list(along(swap, row))))
        self.assertEqual(swap.nets, sums(swap, row))
        self.assertEqual(40, len(Kinds(swap)))
        self.assertEqual((0,), deal.moves([]))
        self.assertEqual(deal, handed_back_deal(handed_back_deal(deal)))
        self.assertEqual(20, len(rest_deal(deal, list(range(20)))))
        self.assertEqual(tuple(range(39)), Leanings(40, pairs).ahead_of(39))
        self.check_raises(Ring(0, (0, 39)), Leanings, 40, [*pairs, (39, 0)])

    def test_plays_of_40_hand_overs(self):
        rnd = random.Random(117)
        swap = large_swap(rnd, 40)
        row = tuple(range(40))
        for careful in (False, True):
            deal = Deal(swap, Bounds([large(rnd) for _ in NAMES], [large(rnd) for _ in NAMES]))
            found = played(deal, row, careful)
            self.assertTrue(shows_played(deal, found, careful))
            self.assertEqual(len(list(tempted(deal, row))), len(list(tempted(deal, list(row)))))
            groups = played_groups(deal, [[number, number + 20] for number in range(20)], careful)
            self.assertTrue(shows_played_groups(deal, groups, careful))

    def test_24_weeks(self):
        rnd = random.Random(118)
        swap = large_swap(rnd, 40)
        q = Ratio(10 ** 29 + 7, 10 ** 30 - 1)
        found = season(swap, tuple(range(40)), q, 24)
        self.assertTrue(shows_season(swap, q, 24, found))
        self.assertEqual(40, len(unrolled(large_swap(rnd, 10), tuple(range(10)), q, 4)[0]))

    def test_roads_of_40_hand_overs(self):
        rnd = random.Random(119)
        swap = large_swap(rnd, 40)
        self.assertEqual(6, rank(swap).number)
        self.assertEqual(6, len(enough_bounds(swap)))
        self.assertEqual(6, len(from_here(swap, (3, 5))))
        self.assertEqual(2, len(chest(swap, (3, 5))))
        self.assertEqual(40, len(off(swap)))
        many = Swap(NAMES, [hand if place % 2 else hand.returned() for place, hand in enumerate(swap)])
        name = NAMES[[net.sign >= 0 for net in many.nets].index(True)]
        self.assertEqual((40, 40), (len(spared(many, tuple(range(40)), name)), len(bound_to(many, tuple(range(40)), name))))

    def test_chains_of_20_hand_overs_and_six_strangers(self):
        rnd = random.Random(120)
        for _ in range(3):
            self.assertEqual(21 - 6, len(enough(large_swap(rnd, 20)).weights))
            self.assertEqual(20, len(finish(large_swap(rnd, 30), tuple(range(10)))))

    def test_many_small_chains(self):
        rnd = random.Random(121)
        for _ in range(200):
            hands = [HandOver(*rnd.sample(NAMES, 2), rnd.randrange(9), rnd.randrange(9)) for _ in range(12)]
            enough(Swap(NAMES, hands))

    def test_even_prices_of_40_hand_overs(self):
        rnd = random.Random(122)
        hands = []
        for _ in range(40):
            worth = large(rnd)
            hands.append(HandOver(*rnd.sample(NAMES[:2], 2), worth, worth))
        deal = Deal(Swap(NAMES[:2], hands), Bounds.alike(2, 10 ** 4, 10 ** 4))
        self.assertEqual(40, len(filled(deal).row))
        self.assertEqual(1, (enough_width(deal.swap) + grain(deal.swap)).sign)

    def test_least_numbers_of_12_hand_overs(self):
        rnd = random.Random(123)
        for _ in range(3):
            swap = Swap(NAMES, [HandOver(*rnd.sample(NAMES, 2), large(rnd), large(rnd) * 3) for _ in range(12)])
            deal = Deal(swap, Bounds([large(rnd) * 3 for _ in NAMES], [None] * 6))
            for dial in (Dial.all_trust(swap), Dial.all_bounds(swap), Dial.all_pledge(swap), Dial.as_told(deal)):
                found = least(deal, dial)
                self.assertTrue(shows_least(deal, dial, found))
        many = Deal(large_swap(rnd, 40), Bounds.alike(6, None, None))
        found = least(many, Dial.all_bounds(many.swap), list(range(28)))
        self.assertTrue(shows_least(many, Dial.all_bounds(many.swap), found, list(range(28))))

    def test_few_reached_sets_seen_from_a_dial(self):
        # Of 4,096 done sets only some are reached at any number; the full one is not.
        swap = Swap.read("a b" + " | a b 1 2" * 12)
        deal = Deal(swap, Bounds.alike(2, 1, 99))
        for _ in range(1000):
            self.assertEqual(13, len(least(deal, Dial.all_pledge(swap)).sets))
        self.assertLess(time.perf_counter() - self.began, 4)

    def test_fronts_of_8_hand_overs(self):
        rnd = random.Random(124)
        points = 0
        for strangers in (2, 2, 2, 2, 2, 2, 3, 6):
            names = NAMES[:strangers]
            swap = Swap(names, [HandOver(*rnd.sample(names, 2), large(rnd), large(rnd)) for _ in range(8)])
            deal = Deal(swap, Bounds.zero(strangers))
            found = front(deal, Dial.all_trust(swap), Dial.all_pledge(swap))
            points += len(found.points)
            self.assertTrue(shows_front(deal, Dial.all_trust(swap), Dial.all_pledge(swap), found))
        self.assertGreater(points, 20)

    def test_patience_of_12_hand_overs(self):
        rnd = random.Random(125)
        hands = []
        for number in range(12):
            hands.append(HandOver(NAMES[number % 6], NAMES[(number + 1) % 6], large(rnd), large(rnd) * 1000))
        deal = Deal(Swap(NAMES, hands), Bounds.alike(6, 10 ** 4, 0))
        self.assertTrue(shows_patience(deal, patience(deal)))

    def test_4096_tallies(self):
        rnd = random.Random(126)
        for many, count in ((12, 1), (6, 3), (4, 7), (3, 15), (2, 63), (1, 4095)):
            swap = large_swap(rnd, many)
            for bounds in (Bounds.alike(6, 10 ** 4, 10 ** 4), Bounds([large(rnd) for _ in NAMES], [10 ** 4] * 6)):
                deal = Deal(swap, bounds)
                found = pieced(deal, count)
                self.assertTrue(shows_pieced(deal, found))

    def test_many_numbers_of_pieces_of_one_hand_over(self):
        # Each time nothing is reached but the tally of none: thousands of tallies are not looked at.
        deal = Deal(Swap.read("a b | a b 1 1"), Bounds([0, 9], [9, 9]))
        found = least_pieces(deal, 4095)
        self.assertEqual((((0,),),) * 4095, found.denials)
        self.assertTrue(shows_least_pieces(deal, found))
        self.assertLess(time.perf_counter() - self.began, 4)
        half = least_pieces(Deal(deal.swap, Bounds([Ratio(1, 2), 9], [9, 9])), 500)
        self.assertEqual(500, len(half.denials))

    def test_fewest_pieces_of_6_hand_overs(self):
        rnd = random.Random(127)
        for _ in range(3):
            swap = Swap(NAMES, [HandOver(*rnd.sample(NAMES, 2), large(rnd), large(rnd)) for _ in range(6)])
            deal = Deal(swap, Bounds.alike(6, Ratio(1, 9), 10 ** 4))
            found = fewest_pieces(deal, 4)
            self.assertTrue(shows_fewest_pieces(deal, found))

    def test_fine_pieces_of_40_hand_overs(self):
        rnd = random.Random(128)
        hands = [HandOver(NAMES[number % 6], NAMES[(number + 1 + number // 6 % 5) % 6], large(rnd), large(rnd) * 1000) for number in range(40)]
        for bounds in (Bounds.alike(6, 10 ** 4, 10 ** 4), Bounds([1, 0, 0, 0, 0, 0], [1, 0, 0, 0, 0, 0]), Bounds.zero(6)):
            deal = Deal(Swap(NAMES, hands), bounds)
            self.assertTrue(shows_fine(deal, fine(deal)))
            self.assertTrue(shows_enough_pieces(deal, enough_pieces(deal)))
            self.assertEqual(1, len(sources(deal.swap)))

    def test_papers_of_roads_are_read(self):
        rnd = random.Random(129)
        swap = large_swap(rnd, 40)
        self.assertTrue(shows_rank(swap, rank(swap)))
        swap = large_swap(rnd, 20)
        self.assertTrue(shows_enough(swap, enough(swap)))

    def test_refusals_by_size(self):
        swap = large_swap(random.Random(113), 40)
        deal = Deal(swap, Bounds.alike(6, None, None))
        for work in (reached, live, firsts, lasts, find_row, forced, Rows, allowed_sets):
            self.check_raises(TooMany("hands", 12), work, deal)
        for work in (find_by_kinds, count_by_kinds):
            self.check_raises(TooMany("counts", 4096), work, deal)
        self.check_raises(TooMany("hands", 20), enough, swap)
        many = Deal(swap, Bounds.alike(6, 10 ** 4, 10 ** 4))
        self.check_raises(TooMany("hands", 12), least, many, Dial.all_trust(swap))
        self.check_raises(TooMany("hands", 8), front, many, Dial.all_trust(swap), Dial.all_pledge(swap))
        self.check_raises(TooMany("tallies", 4096), pieced, many, 10 ** 30)
        self.check_raises(TooMany("tallies", 4096), least_pieces, many, 10 ** 30)
        self.check_raises(TooMany("hands", 6), fewest_pieces, many, 4)
        self.check_raises(TooMany("weeks", 24), season, swap, tuple(range(40)), Ratio(1, 3), 10 ** 30)
        self.check_raises(TooMany("hands", 12), lambda: list(done_sets(swap)))

    def test_4096_counts(self):
        rnd = random.Random(114)
        hands = [HandOver("ann", "bob", large(rnd), large(rnd)) for _ in range(4)]
        back = [HandOver("bob", "ann", large(rnd), large(rnd)) for _ in range(2)]
        swap = Swap(NAMES, [*hands, *back] * 3)
        deal = Deal(swap, Bounds.alike(6, None, None))
        self.assertEqual(18, len(find_by_kinds(deal).row))
        counts = [(a, b, c, d, e, f) for a in range(4) for b in range(4) for c in range(4)
                  for d in range(4) for e in range(4) for f in range(4)]
        self.assertEqual(4096, len(counts))
        ordered = sorted(counts, key=lambda told: (sum(told), told))
        self.assertFalse(shows_stuck_kinds(deal, StuckKinds(ordered[:-1])))

    def test_500_things_of_each_side(self):
        rnd = random.Random(115)
        one, other = HandOver("ann", "bob", large(rnd), large(rnd)), HandOver("bob", "ann", large(rnd), large(rnd))
        self.assertEqual(1000, len(two_sides(one, 500, other, 500, Bounds.alike(2, None, None)).row))

    def test_long_texts(self):
        hands = [HandOver(*NAMES[:2], Ratio(10 ** 59 + 1, 10 ** 59), 1)] * 40
        pairs = [(e, f) for e in range(40) for f in range(e + 1, 40)]
        deal = Deal(Swap(NAMES, hands), Bounds.alike(6, None, None), pairs)
        self.assertEqual(deal, Deal.read(str(deal)))


if __name__ == "__main__":
    unittest.main()
