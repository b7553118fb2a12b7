"""Papers about plays, right ones and ones bent at each place."""

import random
import unittest

from lastgiver.bounds import Bounds
from lastgiver.check_plays import shows_played, shows_played_groups, shows_season
from lastgiver.deals import Deal
from lastgiver.errors import BadDeal, BadNumber, BadPlay, BadShare, BadSwap
from lastgiver.group_plays import PlayedGroups, played_groups
from lastgiver.papers import Denial, Paper
from lastgiver.plays import Played, played
from lastgiver.ratios import Ratio
from lastgiver.rows import Good
from lastgiver.seasons import Season, season
from lastgiver.swaps import Swap

from support import (
    CUP, NO_DEALS, NO_HANDS, NO_NUMBERS, NO_SHARES, NO_SWAPS, ODD, Case, bent, is_same, loosened, random_deals,
)

FREE = Swap.read("ann bob | ann bob 0 1 | bob ann 0 1 | ann bob 1/2 3 | bob ann 1/2 3")
TURNS = Deal(CUP, Bounds([Ratio(5, 2), 0], [None, 2]))
NO_PAPERS = [*ODD, 3, [], (), ((0, 1), (False, False), ()), Good((0, 1)), Paper("played", 0, 1, 2), Denial("season", 0, 1, 2)]
NO_FLAGS = [None, 0, 1, "", [], 1.0]


class PlayedTest(Case):
    def test_wrong_values(self):
        for work in (shows_played, shows_played_groups):
            self.check_each_raises(BadDeal("deal"), NO_DEALS, lambda value: work(value, None, None))
            for value in NO_FLAGS:
                self.check_raises(BadPlay("careful"), work, deal=TURNS, value=None, careful=value)
            for value in NO_PAPERS:
                self.assertIs(False, work(TURNS, value))

    def test_right_papers(self):
        rnd = random.Random(261)
        for deal in random_deals(262, 80):
            row = rnd.sample(range(len(deal)), len(deal))
            for careful in (False, True):
                found = played(deal, row, careful)
                self.assertIs(True, shows_played(deal, found, careful))
                self.assertIs(True, shows_played(deal=deal, value=Played(*loosened(found.parts)), careful=careful))
                plain = played(deal, row)
                self.assertIs(found == plain, shows_played(deal, plain, careful))
        none = Deal(NO_HANDS, Bounds.zero(2))
        self.assertTrue(shows_played(none, Played([], [], [[0, 0]])))

    def test_plainly_if_nothing_else_is_told(self):
        deal = Deal(CUP, Bounds([1, 0], [0, 2]))
        plain, careful = played(deal, (0, 1)), played(deal, (0, 1), True)
        self.assertEqual((True, False), (shows_played(deal, plain), shows_played(deal, careful)))
        plain, careful = played_groups(deal, [[0], [1]]), played_groups(deal, [[0], [1]], True)
        self.assertEqual((True, False), (shows_played_groups(deal, plain), shows_played_groups(deal, careful)))

    def test_bent_papers(self):
        for deal in [TURNS, Deal(CUP, Bounds.zero(2)), *random_deals(263, 6, 3)]:
            for careful in (False, True):
                found = played(deal, tuple(range(len(deal))), careful)
                for parts in bent(found.parts):
                    if isinstance(parts, tuple) and len(parts) == 3:
                        right = False
                        if isinstance(parts[0], tuple) and all(type(number) is int for number in parts[0]):
                            if sorted(parts[0]) == list(range(len(deal))):
                                right = is_same(parts, played(deal, parts[0], careful).parts)
                        self.assertIs(right, shows_played(deal, Played(*parts), careful), parts)

    def test_no_class_below(self):
        class Better(Played):
            pass

        found = played(TURNS, (0, 1))
        self.assertIs(False, shows_played(TURNS, Better(*found.parts)))
        self.assertIs(False, shows_played(TURNS, Season(*found.parts)))
        self.assertIs(False, shows_played(TURNS, PlayedGroups(*found.parts)))


class PlayedGroupsTest(Case):
    def test_right_papers(self):
        rnd = random.Random(264)
        for deal in random_deals(265, 80):
            numbers = rnd.sample(range(len(deal)), len(deal))
            groups = [numbers[:2], *[[number] for number in numbers[2:]]] if numbers else []
            for careful in (False, True):
                found = played_groups(deal, groups, careful)
                self.assertIs(True, shows_played_groups(deal, found, careful))
                self.assertIs(True, shows_played_groups(deal=deal, value=PlayedGroups(*loosened(found.parts)), careful=careful))

    def test_bent_papers(self):
        swap = Swap.read("a b | a b 1 1 | b a 2 3/2 | a b 2 2")
        for bounds in (Bounds.zero(2), Bounds([1, 1], [None, 1]), Bounds.alike(2, 9, 9)):
            deal = Deal(swap, bounds)
            found = played_groups(deal, [[1, 0], [2]], True)
            for parts in bent(found.parts):
                if isinstance(parts, tuple) and len(parts) == 3:
                    right = False
                    try:
                        right = is_same(parts, played_groups(deal, parts[0], True).parts)
                    except ValueError:
                        pass
                    self.assertIs(right, shows_played_groups(deal, PlayedGroups(*parts), True), parts)

    def test_groups_that_do_not_ascend(self):
        deal = Deal(CUP, Bounds.zero(2))
        self.assertIs(True, shows_played_groups(deal, PlayedGroups([[0, 1]], [None], [[1, 1], [1, 1]])))
        self.assertIs(False, shows_played_groups(deal, PlayedGroups([[1, 0]], [None], [[1, 1], [1, 1]])))

    def test_the_one_who_leaves_is_the_last_one(self):
        deal = Deal(Swap.read("a b c | a b 1 9 | b a 9 1"), Bounds.zero(3))
        found = played_groups(deal, [[0], [1]])
        self.assertEqual(("a", "b"), found.leavers)
        for name in ("a", "c", None, "zed", True):
            self.assertIs(False, shows_played_groups(deal, PlayedGroups(found.groups, ("a", name), found.outcomes)))


class SeasonTest(Case):
    def test_wrong_values(self):
        self.check_each_raises(BadSwap("swap"), NO_SWAPS, lambda value: shows_season(value, None, None, None))
        self.check_each_raises(BadShare("q"), NO_SHARES, lambda value: shows_season(CUP, value, None, None))
        for value in [*NO_NUMBERS, 0, -1]:
            self.check_raises(BadNumber("weeks"), shows_season, swap=CUP, q=1, weeks=value, value=None)
        for value in NO_PAPERS:
            self.assertIs(False, shows_season(CUP, 1, 2, value))

    def test_right_papers(self):
        for q in (0, Ratio(1, 2), 1):
            for weeks in (1, 2, 24):
                found = season(FREE, (2, 0, 3, 1), q, weeks)
                self.assertIs(True, shows_season(FREE, q, weeks, found))
                self.assertIs(True, shows_season(swap=FREE, q=q, weeks=weeks, value=Season(*loosened(found.parts))))

    def test_a_week_more_or_less(self):
        found = season(FREE, (0, 1, 2, 3), Ratio(1, 2), 3)
        for weeks in (1, 2, 4, 25, 10 ** 30):
            self.assertIs(False, shows_season(FREE, Ratio(1, 2), weeks, found))
        self.assertIs(False, shows_season(FREE, Ratio(1, 3), 3, found))

    def test_more_weeks_than_are_played(self):
        # No size is refused: all 25 weeks of a share 0 are alike.
        one = season(FREE, (0, 1, 2, 3), 0, 1)
        self.assertIs(True, shows_season(FREE, 0, 25, Season(one.row, one.leaves * 25, one.outcomes * 25)))
        self.assertIs(False, shows_season(FREE, 1, 25, Season(one.row, one.leaves * 25, one.outcomes * 25)))

    def test_bent_papers(self):
        swap = Swap.read("a b | a b 0 1 | b a 1/2 2")
        found = season(swap, (0, 1), Ratio(1, 2), 2)
        bends = 0
        for parts in bent(found.parts):
            if isinstance(parts, tuple) and len(parts) == 3:
                right = False
                if parts[0] == (1, 0) and parts[1:] != found.parts[1:]:
                    right = is_same(parts, season(swap, (1, 0), Ratio(1, 2), 2).parts)
                bends += 1
                self.assertIs(right, shows_season(swap, Ratio(1, 2), 2, Season(*parts)), parts)
        self.assertGreater(bends, 200)


if __name__ == "__main__":
    unittest.main()
