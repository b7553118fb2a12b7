"""Every example of the document's sections on ways by groups, keepers and laid pledges, as a test of its own."""

from lastgiver.bounds import Bounds
from lastgiver.check_groups import shows_narrow, shows_parting
from lastgiver.check_hands import hand_moments
from lastgiver.deals import Deal
from lastgiver.errors import NoWay, Objects
from lastgiver.groups import Narrow, fewest_groups, least_group, most_groups
from lastgiver.held_ways import count_held, held_way
from lastgiver.keepers import Keeper, Keepers
from lastgiver.laid import laid, least_laid, span
from lastgiver.purses import least_purse, reliers
from lastgiver.ratios import Ratio
from lastgiver.rows import find_row
from lastgiver.swaps import HandOver, Swap
from lastgiver.together import Parted, behind, classes, never_behind, parting
from lastgiver.ways import Way, count_ways

from support import Case

cup = Swap(["ann", "bob"], [HandOver("ann", "bob", 2, 3), HandOver("bob", "ann", 2, 3)])
both = Deal(Swap.read("ann bob | ann bob 1 2 | bob ann 1 2 | ann bob 1 2"), Bounds([0, 0], [1, 0]))
way = Way(both, [[1, 0], [2]])
bare = Deal(Swap.ring("ann", "bob", "cay"), Bounds.zero(3))
none = Deal(Swap(["ann", "bob"], []), Bounds.zero(2))
three, kin = Swap.ring("ann", "bob", "cay"), Keeper("kin", 3, "cay", "ann", "bob")
hands = Keepers(three, [1, 1, 1], kin, Keeper("lo", 1, "ann"))
eased = Deal(three, Bounds([1, 0, 0], [0, 1, 0]))
less = hands.placed(kin.with_purse(2))
bear = Deal(cup, Bounds.alike(2, 2, 0))


class ExamplesTest(Case):
    def told(self, expected, found):
        """The results, written as in the document."""
        self.assertEqual(expected, repr(found))

    def test_ways(self):
        self.told("[((0, 1), (2,)), ((), (0, 1), (0, 1, 2)), 2, 2, None]", [way.groups, way.sets, way.largest, len(way), way.as_row()])

    def test_merged_and_refined(self):
        self.told("[((0, 1, 2),), 2]", [way.merged(0).groups, len(Way(both, [[0, 1, 2]]).refined())])

    def test_objects(self):
        self.check_raises(Objects(name="ann", amount=Ratio(1), place=1), Way, both, [[0], [1, 2]])

    def test_count_ways(self):
        self.told("[3, 2, 0]", [count_ways(both), count_ways(both, 2), count_ways(both, 1)])

    def test_classes(self):
        found = [classes(bare), len(never_behind(bare)), classes(both), never_behind(both)]
        self.told("[((0, 1, 2),), 6, ((0,), (1,), (2,)), ((1, 0), (1, 2))]", found)

    def test_parting(self):
        lines = parting(bare, 0, 1).lines
        found = [len(lines), lines[0][0], lines[0][1][:2], lines[2][0], lines[2][1][:2], str(lines[2][1][2])]
        self.told("[4, (0,), ('ann', 'drawn'), (0, 2), ('bob', 'leaves'), '1']", found)

    def test_behind(self):
        self.told("[(1, 2), (1, 2), False]", [parting(both, 0, 1).done, behind(both, 0, 1).done, bool(behind(both, 1, 0))])

    def test_no_way(self):
        self.check_raises(NoWay(done=(), name="ann"), classes, Deal(Swap.read("ann bob | ann bob 2 3"), Bounds.zero(2)))

    def test_most_groups(self):
        self.told("(((), 0), ((0, 1), 1), ((1, 2), 1), ((0, 1, 2), 2))", most_groups(both).ranks)

    def test_least_group_and_fewest_groups(self):
        found = [least_group(both).number, least_group(both).fence, least_group(bare).number, fewest_groups(both, 3).groups]
        self.told("[2, ((),), 3, ((0, 1, 2),)]", found)

    def test_no_hand_over(self):
        found = [classes(none), most_groups(none).number, least_group(none).fence, fewest_groups(none, 1).ranks, count_ways(none)]
        self.told("[(), 0, (), (((), 0),), 1]", found)

    def test_shows_parting(self):
        self.told("[True, False]", [shows_parting(both, 0, 1, Parted([1, 2])), shows_parting(both, 0, 1, Parted([0, 1]))])

    def test_shows_narrow(self):
        found = [shows_narrow(both, Narrow(2, [[0, 1], [2]], [[]])), shows_narrow(both, Narrow(3, [[0, 1, 2]], [[]]))]
        self.told("[True, False]", found)

    def test_keepers(self):
        found = [kin.relied_on_by, hands.reasons("lo", [1, 0]), hands.reasons("kin", [0, 1, 2])]
        self.told("[('ann', 'bob', 'cay'), (('relies', 'bob'), ('relies', 'cay'), ('purse', 1)), ()]", found)

    def test_held_ways(self):
        found = [held_way(bare, less).sets, held_way(eased, less).strokes, count_held(eased, hands)]
        self.told("[((),), (((0,), None), ((1, 2), 'kin')), 2]", found)

    def test_least_purse(self):
        self.told("[3, ((), (0,))]", [least_purse(bare, less, "kin").number, least_purse(eased, hands, "kin").fence])

    def test_reliers(self):
        self.told("(('ann', 'bob'), ((),))", reliers(bare, hands, "kin").barred[0])

    def test_laid(self):
        lay = laid(bear, "kin", {"bob": 2})
        self.told("['ann bob kin | ann bob 2 3 | bob ann 2 3 | bob kin 2 0 | kin bob 0 2', (2, 0, 1, 3)]", [str(lay.swap), find_row(lay).row])

    def test_span_and_least_laid(self):
        self.told("[2, (2, (0, 1), ((0, ((),)),))]", [span(bear, (0, 1), "bob"), least_laid(bear, "bob").parts])

    def test_hand_moments(self):
        found = list(hand_moments(eased, hands, held_way(eased, less)))
        self.told("[('over', 0, 0), ('in', 1, 1), ('in', 2, 2), ('out', 1, 1), ('out', 2, 0)]", found)
