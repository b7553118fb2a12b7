"""Facts of circles, of rows one behind the other, and of closed lists, on small deals."""

import itertools
import random
import unittest

from lastgiver.bounds import Bounds
from lastgiver.check_rows import shows_stuck
from lastgiver.deals import Deal, allowed_sets
from lastgiver.numbered import Rows
from lastgiver.reached import reached
from lastgiver.rows import Stuck, find_row
from lastgiver.turned import circles, hands_among, one_after, portion

from support import Case, all_sets, plain_allowed, plain_good, plain_good_rows, random_bound, random_deals, random_swap


def inner_deal(deal, hands):
    """The deal with the other hand-overs left out."""
    places = {number: place for place, number in enumerate(hands)}
    pairs = [(places[e], places[f]) for e, f in deal.leanings.pairs if e in places and f in places]
    return Deal(portion(deal.swap, hands), deal.bounds, pairs)


def circled_deals(seed, times):
    """Pairs of a deal, no leaning of which joins two circles, and the hand-overs of its circles."""
    rnd = random.Random(seed)
    for _ in range(times):
        swap = random_swap(rnd, 6, rnd.randrange(1, 6))
        among = [hands_among(swap, names) for names in circles(swap)]
        pairs = [pair for hands in among for pair in itertools.combinations(hands, 2) if rnd.random() < 0.2]
        bounds = Bounds([random_bound(rnd, 8) for _ in range(6)], [random_bound(rnd, 8) for _ in range(6)])
        yield Deal(swap, bounds, pairs), among


class CirclesTest(Case):
    def test_a_set_is_allowed_exactly_if_what_it_has_of_each_circle_is(self):
        for deal, among in circled_deals(91, 60):
            for done in all_sets(len(deal)):
                told = []
                for hands in among:
                    inner = [hands.index(number) for number in done if number in hands]
                    told.append(inner_deal(deal, hands).is_allowed(inner))
                self.assertIs(all(told), deal.is_allowed(done))

    def test_good_rows_are_the_weavings_of_good_rows_of_the_circles(self):
        for deal, among in circled_deals(92, 40):
            good = [set(plain_good_rows(inner_deal(deal, hands))) for hands in among]
            woven = []
            for row in itertools.permutations(range(len(deal))):
                parts = [tuple(hands.index(number) for number in row if number in hands) for hands in among]
                if all(part in rows for part, rows in zip(parts, good)):
                    woven.append(row)
            self.assertEqual(woven, list(Rows(deal).in_order(10 ** 6)))


class OneBehindTheOtherTest(Case):
    def test_good_rows_of_gainful_swaps_with_the_same_bounds_are_good_one_behind_the_other(self):
        rnd = random.Random(93)
        tried = 0
        for _ in range(2000):
            swaps = [random_swap(rnd, 3, rnd.randrange(1, 4), True) for _ in range(2)]
            bounds = Bounds([random_bound(rnd) for _ in range(3)], [random_bound(rnd) for _ in range(3)])
            rows = [find_row(Deal(swap, bounds)) for swap in swaps]
            if all(swap.is_gainful for swap in swaps) and all(rows):
                tried += 1
                row = [*rows[0].row, *[number + len(swaps[0]) for number in rows[1].row]]
                self.assertTrue(plain_good(Deal(one_after(*swaps), bounds), row))
        self.assertGreater(tried, 20)


class ClosedListsTest(Case):
    def test_every_deal_has_a_good_row_or_a_closed_list_and_the_reached_sets_are_the_least_one(self):
        stuck = 0
        for deal in random_deals(94, 60, 3):
            sets = allowed_sets(deal)
            lists = itertools.chain.from_iterable(itertools.combinations(sets, k) for k in range(len(sets) + 1))
            closed = [told for told in lists if shows_stuck(deal, Stuck(told))]
            if plain_good_rows(deal):
                self.assertEqual([], closed)
            else:
                stuck += 1
                self.assertIn(reached(deal), closed)
                self.assertEqual([], [told for told in closed if not set(reached(deal)) <= set(told)])
        self.assertGreater(stuck, 10)

    def test_moves_lead_from_reached_sets_to_reached_ones(self):
        for deal in random_deals(95, 40, 4):
            for done in reached(deal):
                for number in deal.moves(done):
                    self.assertIn(tuple(sorted((*done, number))), reached(deal))
                self.assertTrue(plain_allowed(deal, done))


if __name__ == "__main__":
    unittest.main()
