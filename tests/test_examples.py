"""Every example of the document, as a test of its own."""

from lastgiver.bounds import Bounds
from lastgiver.deals import Deal, allowed_sets
from lastgiver.errors import BadText, Below, Ring
from lastgiver.kind_rows import count_by_kinds, find_by_kinds
from lastgiver.kinds import Kinds
from lastgiver.leanings import Leanings
from lastgiver.numbered import Rows
from lastgiver.papers import Denial, Paper, fixed
from lastgiver.ratios import Ratio, added
from lastgiver.reached import firsts, lasts, live, reached
from lastgiver.rows import find_row, forced
from lastgiver.sums import along, done_sets, gave, rest, sums, took
from lastgiver.swaps import HandOver, Swap
from lastgiver.turned import circles, hands_among, portion
from lastgiver.turned_deals import exchanged, handed_back_deal, rest_deal
from lastgiver.two_sides import two_sides
from lastgiver.walked import RowWalk

from support import CUP as cup
from support import Case

four = Swap(("a", "b", "c", "d"), [HandOver("a", "c", 1, 1), HandOver("d", "b", 2, 4), HandOver("c", "a", 1, 2)])
low = Bounds([2, None], [0, Ratio(3, 2)])
deal = Deal(cup, Bounds.alike(2, 1, 1))
leant = Deal(cup, Bounds([2, None], [0, 2]), [(0, 1)])
bold = Deal(cup, Bounds.alike(2, 2, 2))
ring = Deal(Swap.ring("ann", "bob", "cat"), Bounds([1, 0, 0], [0, 1, 1]))
mugs = Swap(["ann", "bob"], [HandOver("ann", "bob", 1, 1), HandOver("ann", "bob", 1, 1), HandOver("bob", "ann", 2, 2)])
near = Deal(mugs, Bounds.alike(2, 1, 1))


class ExamplesTest(Case):
    def told(self, expected, found):
        """The results, written as in the document."""
        self.assertEqual(expected, repr(found))

    def test_ratios(self):
        found = [Ratio(4, -6), Ratio(1, 2) + 1, Ratio(3).over(2), Ratio(1, 3).compared(Ratio(1, 2))]
        self.told("[-2/3, 3/2, 3/2, -1]", found)
        self.told("[3/2, True, '0']", [added([1, Ratio(1, 2)]), Ratio(2) == 2, str(Ratio(0, 5))])

    def test_papers(self):
        self.told("(1, (('a', None), ('b', (2,))))", fixed([1, {"b": [2], "a": None}]))
        found = [bool(Paper("note", [1])), bool(Denial("note")), Paper("note", [1]) == Paper("note", (1,))]
        self.told("[True, False, True]", found)
        self.told("False", Paper("note", 1) == Denial("note", 1))

    def test_swaps(self):
        self.told("'ann bob | ann bob 2 3 | bob ann 2 3'", str(cup))
        self.told("[(1, 1), 'bob', True, True, False]", [cup.nets, cup[1].giver, "bob" in cup, cup.is_gainful, cup.is_even])
        self.told("'ann bob | bob ann 3 2 | ann bob 3 2'", str(-cup))

    def test_swaps_read(self):
        self.check_raises(BadText(0, 4), Swap.read, "ann bob | ann ann 2 3")

    def test_sums(self):
        self.told("[(-2, 3), [(0, 0), (3, -2), (1, 1)], (0,)]", [sums(cup, [0]), list(along(cup, (1, 0))), rest(cup, [1])])
        found = [gave(cup, [1, 0], "ann"), took(cup, [1, 0], "ann"), list(done_sets(cup))]
        self.told("[2, 3, [(), (0,), (1,), (0, 1)]]", found)

    def test_kinds(self):
        kinds = Kinds(cup + cup)
        self.told("[((0, 2), (1, 3)), (2, 2), 4, (2, 0)]", [kinds.numbers, kinds.sizes, kinds.orders, kinds.counts_of([2, 0])])
        found = [kinds.first_with((1, 1)), kinds.sums_with((2, 0)), kinds.sets_with((1, 1))]
        self.told("[(0, 1), (-4, 6), 4]", found)

    def test_turned(self):
        found = [circles(four), hands_among(four, ("a", "c")), (cup * Ratio(1, 2)).nets]
        self.told("[(('a', 'c'), ('b', 'd')), (0, 2), (1/2, 1/2)]", found)

    def test_bounds(self):
        found = [str(low), str(low.exchanged()), low.covers(Bounds.zero(2))]
        self.told("['2 0 , wide 3/2', '0 2 , 3/2 wide', True]", found)
        self.told("['2 1 , wide 3/2', '2 0 , 0 3/2']", [str(low | Bounds.alike(2, 1, 1)), str(low.with_trust(1, 0))])

    def test_bounds_read(self):
        self.check_raises(BadText(0, 3), Bounds.read, "2 0 , -1 0")

    def test_leanings(self):
        leans = Leanings(4, [(1, 2), (0, 1), (1, 2)])
        found = [leans.pairs, leans.broken([2, 3]), leans.ahead_of(2), leans.free([0]), leans.turned().pairs]
        self.told("[((0, 1), (1, 2)), ((1, 2),), (0, 1), (1, 3), ((1, 0), (2, 1))]", found)

    def test_leanings_with_a_ring(self):
        self.check_raises(Ring(1, (1, 2, 3)), Leanings, 4, [(3, 1), (1, 2), (2, 3), (0, 1)])

    def test_deals(self):
        found = [str(deal.objections([0])[0]), str(deal.objections([0])[1]), deal.is_allowed([]), deal.moves([])]
        self.told("['ann drawn 1', 'bob leaves 1', True, ()]", found)
        self.told("'ann leaves 1'", str(deal.against([], 1)[0]))

    def test_deals_with_leanings(self):
        self.told("'ann bob | ann bob 2 3 | bob ann 2 3 ; 2 0 , wide 2 ; 0 1'", str(leant))
        self.told("[(('leaning', 0),), [(), (0,), (0, 1)]]", [leant.against([], 1), allowed_sets(leant)])

    def test_walked(self):
        walk = RowWalk(deal, (1, 0))
        self.told("[False, 1, (3, -2)]", [walk.is_good, walk.first_bad.number, walk.moments[1].line])
        self.told("['0 2 , 2 0', (0, 2, 0), (0, 2, 0)]", [str(walk.needs), walk.lent, walk.above])

    def test_turned_deals(self):
        self.told("'ann bob | ann bob 2 3 | bob ann 2 3 ; 0 2 , 2 wide ; 1 0'", str(exchanged(leant)))
        found = [str(handed_back_deal(leant).bounds), str(rest_deal(leant, [0]))]
        self.told("['3 1 , wide 3', 'ann bob | bob ann 2 3 ; 0 0 , wide 2']", found)

    def test_turned_deals_below(self):
        self.check_raises(Below("ann", "drawn", Ratio(2)), handed_back_deal, Deal(portion(cup, [0]), Bounds.zero(2)))

    def test_reached(self):
        self.told("[((), (0,), (1,), (0, 1)), (0, 1)]", [reached(bold), firsts(bold)])
        found = [reached(Deal(cup, Bounds([2, 0], [0, 2]))), reached(deal), live(deal)]
        self.told("[((), (0,), (0, 1)), ((),), ()]", found)

    def test_reached_ring(self):
        self.told("[((), (0,), (0, 1), (0, 1, 2)), (0,), (2,)]", [live(ring), firsts(ring), lasts(ring)])

    def test_rows(self):
        found = [find_row(bold).row, find_row(deal).sets, bool(find_row(deal)), forced(deal) == find_row(deal)]
        self.told("[(0, 1), ((),), False, True]", found)

    def test_forced(self):
        self.told("[(), ((0, 1), (0, 2), (1, 2))]", [forced(bold), forced(ring)])
        turned = forced(Deal(cup, Bounds.alike(2, 2, 2), [(1, 0)]))
        self.told("[((1, 0),), ()]", [turned, find_row(Deal(Swap(["ann", "bob"], []), Bounds.zero(2))).row])

    def test_numbered(self):
        rows = Rows(bold)
        found = [rows.count, rows.at(1), rows.place_of([1, 0]), (0, 1) in rows, (0, 0) in rows, list(rows.in_order(5))]
        self.told("[2, (1, 0), 1, True, False, [(0, 1), (1, 0)]]", found)

    def test_numbered_from_set(self):
        rows = Rows(bold)
        found = [rows.from_set(()), rows.from_set((1,)), bool(Rows(deal)), Rows(ring).count, Rows(ring).from_set((1, 2))]
        self.told("[2, 1, False, 1, 0]", found)

    def test_kind_rows(self):
        found = [find_by_kinds(near).row, count_by_kinds(near), find_by_kinds(Deal(mugs, Bounds.zero(2))).counts]
        self.told("[(0, 2, 1), 2, ((0, 0),)]", found)

    def test_two_sides(self):
        three, two = HandOver("ann", "bob", 3, 3), HandOver("bob", "ann", 2, 2)
        found = two_sides(three, 2, two, 3, Bounds.alike(2, 2, 2))
        self.told("[(1, 0, 1, 0, 1), 0]", [found.row, two_sides(three, 2, two, 3, Bounds.alike(2, 1, 1)).place])
