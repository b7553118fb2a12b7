"""Ways: what is refused, groups and sets, merged and refined, and how many there are."""

import unittest

from lastgiver.bounds import Bounds
from lastgiver.deals import Deal
from lastgiver.errors import Ahead, BadDeal, BadNumber, BadWay, Beyond, NoHand, NoWay, Objects, TooMany, Twice
from lastgiver.ratios import Ratio
from lastgiver.swaps import HandOver, Swap
from lastgiver.ways import Way, count_ways

from support import CUP, NO_DEALS, NO_NUMBERS, Case, all_sets, plain_allowed, plain_good_rows, random_deals
from support_ways import BARE, BOTH, NO_BEGINNING, NO_END, NO_GROUPS_TOLD, NONE, has_way, is_way, plain_ways, way_deals


def many_hands(many, bounds=Bounds.alike(2, None, None)):
    """A deal of so many hand-overs."""
    return Deal(Swap(CUP.strangers, (CUP.hands * 20)[:many]), bounds)


class WayTest(Case):
    def test_wrong_values(self):
        self.check_each_raises(BadDeal("deal"), NO_DEALS, lambda value: Way(value, None))
        self.check_each_raises(BadWay("groups"), NO_GROUPS_TOLD, lambda value: Way(BOTH, value))

    def test_numbers_that_are_none_told_twice_or_missing(self):
        for groups, number in [([[3], [0, 0]], 3), ([[0, 0], [-1, 7]], -1), ([[0], [0], [10 ** 40]], 10 ** 40)]:
            self.check_raises(NoHand(number), Way, BOTH, groups)
        for groups, number in [([[0, 1, 0]], 0), ([[0], [1, 2], [2, 0]], 2), ([[1, 1]], 1), ([[0, 1], [1, 0]], 1)]:
            self.check_raises(Twice(number), Way, deal=BOTH, groups=groups)
        for groups in ([], [[0, 1]], [(2,)], ((0,), (2,))):
            self.check_raises(BadWay("missing"), Way, BOTH, groups)
        self.check_raises(NoHand(0), Way, NONE, [[0]])

    def test_sets_that_are_not_allowed(self):
        self.check_raises(Objects("ann", Ratio(1), 1), Way, BOTH, [[0], [1, 2]])
        self.check_raises(Objects("ann", Ratio(1), 1), Way, BOTH, [[1], [0], [2]])
        self.check_raises(Objects("bob", Ratio(1), 1), Way, BOTH.with_bounds(Bounds([0, 0], [9, 0])), [[1], [0], [2]])
        self.check_raises(Objects("ann", Ratio(2), 0), Way, NO_BEGINNING, [[0]])
        self.check_raises(Objects("ann", Ratio(2), 1), Way, NO_END, [[0]])
        leant = Deal(CUP, Bounds.zero(2), [(1, 0)])
        self.check_raises(Ahead(1, 0), Way, leant, [[0], [1]])
        self.check_raises(Objects("ann", Ratio(2), 1), Way, leant, [[1], [0]])
        third = Deal(BOTH.swap, Bounds.alike(2, 9, 9), [(2, 0), (1, 0)])
        self.check_raises(Ahead(1, 0), Way, third, [[0], [1, 2]])
        self.check_raises(Ahead(2, 0), Way, third, [[1], [0], [2]])

    def test_two_wrong_values_at_once(self):
        self.check_raises(BadWay("groups"), Way, BOTH, [[9], []])
        self.check_raises(NoHand(9), Way, BOTH, [[0, 0], [9]])
        self.check_raises(Twice(0), Way, BOTH, [[0, 0]])
        self.check_raises(BadWay("missing"), Way, BOTH, [[0], [1]])

    def test_what_it_keeps(self):
        groups = [[1, 0], (2,)]
        way = Way(BOTH, groups)
        groups[0].append(7)
        self.check_same(((0, 1), (2,)), way.groups)
        self.check_same(((), (0, 1), (0, 1, 2)), way.sets)
        self.assertIs(BOTH, way.deal)
        self.check_same((2, 2, [(0, 1), (2,)]), (way.largest, len(way), list(way)))
        none = Way(NONE, [])
        self.check_same(((), ((),), 0, 0, ()), (none.groups, none.sets, none.largest, len(none), none.as_row()))

    def test_equality(self):
        self.check_equality(lambda: Way(BOTH, [[1, 0], [2]]), [
            Way(BOTH, [[0, 1, 2]]), Way(BOTH, [[1, 2], [0]]), Way(BOTH.with_bounds(Bounds([0, 0], [1, 1])), [[0, 1], [2]]),
        ])
        self.assertTrue(Way(BOTH, [[0, 1], [2]]) == Way(Deal(BOTH.swap, BOTH.bounds, ()), ((1, 0), (2,))))

    def test_40_hand_overs(self):
        deal = many_hands(40)
        way = Way(deal, [[number] for number in range(40)])
        self.check_same(tuple(range(40)), way.as_row())
        self.check_same((41, 1), (len(way.sets), way.largest))
        self.check_raises(TooMany("hands", 8), way.refined)
        self.check_same(2, way.merged(3).largest)

    def test_merged(self):
        way = Way(BOTH, [[0, 1], [2]])
        self.check_same(((0, 1, 2),), way.merged(0).groups)
        self.check_same(((0, 1), (2,)), way.groups)
        for value in NO_NUMBERS:
            self.check_raises(BadNumber("at"), way.merged, value)
        for at in (-1, 1, 2, 10 ** 30):
            self.check_raises(Beyond(at), way.merged, at=at)
        self.check_raises(Beyond(0), Way(NONE, []).merged, 0)
        row = Way(many_hands(4), [[3], [0], [2], [1]])
        self.check_same(((0, 3), (2,), (1,)), row.merged(0).groups)
        self.check_same(((3,), (0, 2), (1,)), row.merged(1).groups)
        self.check_same(((3,), (0,), (1, 2)), row.merged(at=2).groups)
        self.check_raises(Beyond(3), row.merged, 3)

    def test_refined(self):
        self.assertIn(Way(BOTH, [[0, 1, 2]]).refined().groups, [((0, 1), (2,)), ((1, 2), (0,))])
        for groups in ([[0, 1], [2]], [[1, 2], [0]]):
            self.assertEqual(Way(BOTH, groups), Way(BOTH, groups).refined())
        self.assertEqual(Way(NONE, []), Way(NONE, []).refined())
        for many in (7, 8):
            self.assertEqual(many, len(Way(many_hands(many), [list(range(many))]).refined()))
        self.check_raises(TooMany("hands", 8), Way(many_hands(9), [list(range(9))]).refined)

    def test_refined_ways_are_split_no_further(self):
        for deal in way_deals(811, 160):
            for groups in plain_ways(deal)[:30]:
                way = Way(deal, groups).refined()
                self.assertTrue(set(Way(deal, groups).sets) <= set(way.sets))
                for one, other in zip(way.sets, way.sets[1:]):
                    between = [done for done in all_sets(len(deal)) if set(one) < set(done) < set(other)]
                    self.assertFalse(any(plain_allowed(deal, done) for done in between))
                self.assertEqual(way, way.refined())
                self.assertEqual(way, Way(deal, groups).refined())

    def test_rows(self):
        self.assertIsNone(Way(BOTH, [[0, 1], [2]]).as_row())
        for deal in way_deals(812, 120, 4):
            rows = [Way(deal, groups).as_row() for groups in plain_ways(deal)]
            self.assertEqual(plain_good_rows(deal), sorted(row for row in rows if row is not None))

    def test_a_way_is_what_is_told(self):
        for deal in random_deals(813, 60, 4):
            for groups in plain_ways(deal) if has_way(deal) else []:
                self.assertTrue(is_way(deal, Way(deal, groups).groups))


class CountTest(Case):
    def test_wrong_values(self):
        self.check_each_raises(BadDeal("deal"), NO_DEALS, lambda value: count_ways(value, 0))
        self.check_each_raises(
            BadNumber("largest"), [0, -1, -10 ** 20, *[value for value in NO_NUMBERS if value is not None]],
            lambda value: count_ways(NO_BEGINNING, value),
        )
        self.check_raises(NoWay((), "ann"), count_ways, NO_BEGINNING)
        self.check_raises(NoWay((0,), "ann"), count_ways, NO_END, 1)
        losing = Deal(Swap(["a", "b"], [*[HandOver("a", "b", 1, 1)] * 39, HandOver("b", "a", 2, 2)]), Bounds([0, 9], [99, 99]))
        self.check_raises(NoWay(tuple(range(40)), "a"), count_ways, losing, largest=1)
        self.check_raises(BadNumber("largest"), count_ways, losing, 0)

    def test_sizes(self):
        self.assertEqual(545835, count_ways(many_hands(8)))
        self.check_raises(TooMany("hands", 8), count_ways, many_hands(9))
        self.check_raises(TooMany("hands", 8), count_ways, many_hands(40), 1)

    def test_largest(self):
        self.check_same([3, 2, 0, 3, 3], [count_ways(BOTH, one) for one in (None, 2, 1, 3, 10 ** 30)])
        self.check_same([1, 0, 0, 1], [count_ways(deal=BARE, largest=one) for one in (None, 1, 2, 3)])
        self.check_same([1, 1], [count_ways(NONE), count_ways(NONE, 1)])

    def test_by_trying_all_lists(self):
        for deal in way_deals(821, 220):
            for largest in (None, 1, 2, 3, 5):
                self.assertEqual(len(plain_ways(deal, largest)), count_ways(deal, largest))


if __name__ == "__main__":
    unittest.main()
