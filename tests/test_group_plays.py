"""Groups played, plainly and carefully."""

import random
import unittest

from lastgiver.bounds import Bounds
from lastgiver.deals import Deal
from lastgiver.errors import BadDeal, BadPlay, BadWay
from lastgiver.group_plays import PlayedGroups, played_groups
from lastgiver.plays import played
from lastgiver.ratios import Ratio
from lastgiver.swaps import HandOver, Swap

from support import (
    CUP, NO_DEALS, NO_HANDS, NO_LISTS, Case, as_fraction, line, plain_objections, plain_sums, random_deals,
)

BARE = Deal(CUP, Bounds.zero(2))
NO_GROUPS = [
    *NO_LISTS, [], (), [0, 1], [[0]], [[0], [0]], [[0, 1], []], [[], [0, 1]], [[0], [1], []], [[0, 1, 1]], [[0], [1, 0]],
    [[0, 2]], [[0], [-1]], [[0], [True]], [[False], [1]], [[0], 1], [[0], "1"], ["01"], [[0], [1.0]], [[[0, 1]]], [{0: 1}, [1]],
    [[0], [1], [2]], [[0], [Ratio(1)]], [[0], [None]], {0: [0], 1: [1]}, [{0, 1}],
]


def plain_groups(deal, groups, careful):
    """Who leaves ahead of each group, and the outcomes, as Fractions."""
    outcomes = [plain_sums(deal.swap, [number for group in groups for number in group])]
    leavers = []
    for moment in reversed(range(len(groups))):
        here = plain_sums(deal.swap, [number for group in groups[:moment] for number in group])
        there = plain_sums(deal.swap, [number for group in groups[:moment + 1] for number in group])
        would = []
        for place, (trust, pledge) in enumerate(zip(deal.bounds.trusts, deal.bounds.pledges)):
            if pledge is not None and here[place] - as_fraction(pledge) > outcomes[0][place]:
                would.append(place)
            elif careful and trust is not None and there[place] < here[place] and there[place] < -as_fraction(trust):
                would.append(place)
        leavers.insert(0, deal.swap.strangers[would[-1]] if would else None)
        now = list(here) if would else outcomes[0]
        if would:
            pledge = deal.bounds.pledges[would[-1]]
            now[would[-1]] = None if pledge is None else here[would[-1]] - as_fraction(pledge)
        outcomes.insert(0, now)
    return leavers, outcomes


def as_lines(outcomes):
    """Lines of Ratios of outcomes."""
    return tuple(tuple(None if one is None else Ratio(one.numerator, one.denominator) for one in row) for row in outcomes)


def random_groups(rnd, many):
    """All numbers, each in one group."""
    groups = []
    for number in rnd.sample(range(many), many):
        if groups and rnd.random() < 0.5:
            rnd.choice(groups).append(number)
        else:
            groups.append([number])
    return groups


class GroupPlaysTest(Case):
    def test_wrong_values(self):
        self.check_each_raises(BadDeal("deal"), NO_DEALS, lambda value: played_groups(value, None, None))
        self.check_each_raises(BadWay("groups"), NO_GROUPS, lambda value: played_groups(BARE, value, None))
        for value in [None, 0, 1, "", [], 1.0, Ratio(1)]:
            self.check_raises(BadPlay("careful"), played_groups, deal=BARE, groups=[[0], [1]], careful=value)
        self.check_raises(BadWay("groups"), played_groups, Deal(NO_HANDS, Bounds.zero(2)), [[]])

    def test_groups_are_ascending_tuples_and_what_is_passed_stays(self):
        groups = [[1, 0]]
        found = played_groups(BARE, groups)
        self.assertEqual([[1, 0]], groups)
        self.assertIs(PlayedGroups, type(found))
        self.check_same((((0, 1),), (None,), (line(1, 1), line(1, 1))), found.parts)
        self.check_same(("playedgroups", ((0, 1),), (None,)), (found.word, found.groups, found.leavers))
        self.check_same((((0, 1),), (None,), (line(1, 1), line(1, 1))), played_groups(BARE, ((1, 0),), True).parts)

    def test_no_hand_over(self):
        found = played_groups(Deal(NO_HANDS, Bounds.zero(2)), ())
        self.check_same(((), (), (line(0, 0),)), found.parts)
        self.assertEqual(found, played_groups(Deal(NO_HANDS, Bounds.zero(2)), [], True))

    def test_the_last_one_leaves(self):
        # All three lose by the second group, and would leave.
        swap = Swap.read("a b c | a b 1 9 | b c 1 9 | c a 1 9 | a b 5 0 | b c 5 0 | c a 5 0")
        deal = Deal(swap, Bounds.zero(3))
        found = played_groups(deal, [[0, 1, 2], [3, 4, 5]])
        self.check_same((None, "c"), found.leavers)
        self.check_same((line(8, 8, 8), line(8, 8, 8), line(3, 3, 3)), found.outcomes)
        pledged = played_groups(deal.with_bounds(Bounds([0, 0, 0], [0, 4, 6])), [[0, 1, 2], [3, 4, 5]])
        self.check_same((None, "b"), pledged.leavers)
        self.check_same(line(8, 4, 8), pledged.outcomes[0])

    def test_careful_with_wide_bounds(self):
        swap = Swap.read("a b | a b 2 1 | b a 1 1")
        found = played_groups(Deal(swap, Bounds([0, 0], [None, None])), [[0, 1]], careful=True)
        self.check_same((("a",), ((None, Ratio(0)), line(-1, 0))), (found.leavers, found.outcomes))
        self.check_same((None,), played_groups(Deal(swap, Bounds([None, 0], [None, None])), [[0, 1]], careful=True).leavers)
        self.check_same((None,), played_groups(Deal(swap, Bounds([1, 0], [None, None])), [[0, 1]], careful=True).leavers)

    def test_a_sum_that_the_group_does_not_make_less(self):
        # Ann is below what she trusts ahead of the second group, but that one makes it no worse.
        swap = Swap.read("a b c | a c 5 5 | b c 0 0 | c a 0 1")
        deal = Deal(swap, Bounds([1, 0, 0], [None, None, None]))
        self.check_same(("a", None), played_groups(deal, [[0], [1, 2]], careful=True).leavers)

    def test_by_plain_play(self):
        rnd = random.Random(231)
        for deal in random_deals(232, 200):
            for careful in (False, True):
                groups = random_groups(rnd, len(deal))
                leavers, outcomes = plain_groups(deal, groups, careful)
                found = played_groups(deal, groups, careful)
                told = tuple(tuple(sorted(group)) for group in groups)
                self.check_same((told, tuple(leavers), as_lines(outcomes)), found.parts)

    def test_single_groups_are_played_as_a_row_plainly(self):
        rnd = random.Random(233)
        for deal in random_deals(234, 100):
            row = rnd.sample(range(len(deal)), len(deal))
            found, by_row = played_groups(deal, [[number] for number in row]), played(deal, row)
            self.assertEqual(by_row.outcomes, found.outcomes)
            self.assertEqual(by_row.leaves, tuple(name is not None for name in found.leavers))

    def test_carefully_to_their_end_exactly_if_nobody_objects_at_any_moment(self):
        rnd = random.Random(235)
        whole = set()
        for deal in random_deals(236, 300):
            groups = random_groups(rnd, len(deal))
            sets = [[number for group in groups[:moment] for number in group] for moment in range(len(groups) + 1)]
            found = all(name is None for name in played_groups(deal, groups, careful=True).leavers)
            whole.add(found)
            self.assertIs(found, not any(plain_objections(deal, done) for done in sets))
        self.assertEqual({False, True}, whole)

    def test_whoever_leaves_has_a_sum_that_the_group_makes_less(self):
        rnd = random.Random(237)
        some = 0
        for deal in random_deals(238, 200):
            groups = random_groups(rnd, len(deal))
            for moment, name in enumerate(played_groups(deal, groups, rnd.random() < 0.5).leavers):
                if name is not None:
                    some += 1
                    place = deal.swap.strangers.index(name)
                    here = plain_sums(deal.swap, [number for group in groups[:moment] for number in group])
                    there = plain_sums(deal.swap, [number for group in groups[:moment + 1] for number in group])
                    self.assertLess(there[place], here[place])
        self.assertGreater(some, 50)

    def test_40_hand_overs(self):
        swap = Swap(CUP.strangers, [HandOver("ann", "bob", 1, 2)] * 20 + [HandOver("bob", "ann", 1, 2)] * 20)
        groups = [[number, number + 20] for number in range(20)]
        self.check_same((None,) * 20, played_groups(Deal(swap, Bounds.zero(2)), groups, True).leavers)


if __name__ == "__main__":
    unittest.main()
