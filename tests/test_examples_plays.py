"""Every example of the document's sections on plays, weeks, roads and even prices, as a test of its own."""

from lastgiver.bounds import Bounds
from lastgiver.deals import Deal
from lastgiver.even import Halted, enough_width, filled, hardest, lane
from lastgiver.group_plays import played_groups
from lastgiver.plays import leaver, played, tempted
from lastgiver.ratios import Ratio
from lastgiver.roads import chest, enough_bounds, from_here, off, rank
from lastgiver.seasons import season, unrolled
from lastgiver.starts import begun_at, bound_to, spared
from lastgiver.swaps import Swap
from lastgiver.weeks import forever, weekly

from support import CUP as cup
from support import Case

bare = Deal(cup, Bounds.zero(2))
plates, ring, gift = (
    Swap.read("ann bob | ann bob 2 3 | bob ann 2 3"), Swap.read("a b c | a b 1 2 | b c 1 2 | c a 1 2"),
    Swap.read("ann bob | ann bob 2 3"),
)
loads = Swap.read("ann bob | ann bob 1 1 | ann bob 1 1 | bob ann 2 2")


class ExamplesTest(Case):
    def told(self, expected, found):
        """The results, written as in the document."""
        self.assertEqual(expected, repr(found))

    def test_plays(self):
        found = [played(bare, (0, 1)).parts, leaver(bare, (0, 1)), list(tempted(bare, (0, 1)))]
        self.told("[((0, 1), (True, True), ((0, 0), (-2, 3), (1, 1))), 'ann', [(1, 'bob', 2)]]", found)

    def test_plays_stopped(self):
        some = played(Deal(cup, Bounds([0, 0], [3, 1])), (0, 1))
        found = [some.leaves, some.outcomes, some.handed, some.is_whole]
        self.told("[(False, True), ((-2, 2), (-2, 2), (1, 1)), (0,), False]", found)

    def test_careful_plays(self):
        near = Deal(cup, Bounds([1, 0], [0, 2]))
        self.told("[True, (True, False)]", [played(near, (0, 1)).is_whole, played(near, (0, 1), careful=True).leaves])

    def test_careful_plays_with_a_wide_pledge(self):
        found = played(Deal(cup, Bounds([0, 0], [None, 2])), (0, 1), careful=True).outcomes
        self.told("((None, 0), (1, 1), (1, 1))", found)

    def test_plays_with_gifts(self):
        gifts = Deal.read("a b x | a b 1 5 | x b 1 1 | a b 2 2 ; 0 2 , 0 0 , 0 0")
        more = gifts.with_bounds(Bounds([0, 0, 0], [2, 0, 1]))
        self.told("[1, 0]", [played(gifts, (0, 1, 2)).moment, played(more, (0, 1, 2)).moment])

    def test_group_plays(self):
        found = [played_groups(bare, [(1, 0)]).parts, played_groups(bare, [[0], [1]]).leavers]
        self.told("[(((0, 1),), (None,), ((1, 1), (1, 1))), ('ann', 'bob')]", found)

    def test_weeks(self):
        self.told("['0 2 , 0 2', (3, 3)]", [str(weekly(bare, Ratio(2, 3)).bounds), forever(cup, Ratio(2, 3))])

    def test_seasons(self):
        free = Swap.read("ann bob | ann bob 0 1 | bob ann 0 1 | ann bob 1/2 3 | bob ann 1/2 3")
        two = season(free, (0, 1, 2, 3), Ratio(1, 2), 2)
        self.told(
            "[((False, False, False, False), (False, False, True, True)), (4, 4), "
            "((1, 1), (1, 1), (1, 1), (1/2, 4), (7/2, 7/2))]",
            [two.leaves, two.outcomes[0][0], two.outcomes[1]],
        )

    def test_seasons_unrolled(self):
        found = [str(unrolled(cup, (1, 0), Ratio(1, 2), 2)[0]), unrolled(cup, (1, 0), Ratio(1, 2), 2)[1]]
        self.told("['ann bob | ann bob 2 3 | bob ann 2 3 | ann bob 1 3/2 | bob ann 1 3/2', (1, 0, 3, 2)]", found)

    def test_roads(self):
        self.told("[(-5/2, 5/2), 1, (0, 1), 0]", [off(plates)[0], rank(plates).number, rank(ring).kept, rank(gift).number])

    def test_roads_enough(self):
        found = [str(enough_bounds(plates)), str(enough_bounds(ring)), str(enough_bounds(gift)), str(from_here(ring, (0,)))]
        self.told("['2 2 , 2 2', '1 1 , 1 1 , 1 1', '2 2 , 0 0', '1 0 , 0 1 , 1 1']", found)

    def test_chest(self):
        self.told("[(2, 4), (2, 3)]", [chest(ring), chest(ring, (0,))])

    def test_starts(self):
        found = [spared(plates, (0, 1), "ann"), bound_to(plates, (0, 1), "ann"), begun_at((2, 0, 1), 2)]
        self.told("[(1, 0), (0, 1), (1, 2, 0)]", found)

    def test_even(self):
        near = Deal(loads, Bounds.alike(2, 1, 1))
        self.told("[(-1, 1), 2, (0, 2, 1)]", [lane(near), enough_width(loads), filled(near).row])

    def test_even_hardest(self):
        found = [
            str(hardest(2, 1)), filled(Deal(hardest(2, 3), Bounds([0, 4], [4, 0]))).row,
            filled(Deal(hardest(2, 3), Bounds([0, 3], [3, 0]))) == Halted((0, 2)),
        ]
        self.told("['one other | other one 1 1 | other one 1 1 | one other 2 2', (0, 2, 1, 3, 4), True]", found)
