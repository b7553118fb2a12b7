"""Papers about good rows, right ones and ones bent at each place."""

import itertools
import random
import unittest

from lastgiver.bounds import Bounds
from lastgiver.check_rows import shows_gap, shows_good, shows_sides, shows_stuck, shows_stuck_kinds
from lastgiver.deals import Deal, allowed_sets
from lastgiver.errors import BadBounds, BadDeal, BadHandOver, BadNumber, NoWay, Unlike
from lastgiver.kind_rows import StuckKinds, find_by_kinds
from lastgiver.papers import Denial, Paper
from lastgiver.ratios import Ratio
from lastgiver.rows import Good, Stuck, find_row
from lastgiver.swaps import HandOver, Swap
from lastgiver.two_sides import Gap, Sides, two_sides

from support import CUP, NO_DEALS, NO_HANDS, NO_NUMBERS, Case, plain_allowed, plain_good, random_deals

WIDE = Bounds.alike(2, None, None)
BOLD = Deal(CUP, Bounds.alike(2, 2, 2))
# Behind 0 nothing else is allowed; behind 1 neither.
STUCK = Deal(Swap.read("ann bob | ann bob 2 2 | ann bob 2 2 | bob ann 4 4"), Bounds([2, 0], [0, 2]))
STUCK_SETS = ((), (0,), (1,))
ONE, OTHER = HandOver("ann", "bob", 3, 3), HandOver("bob", "ann", 2, 2)
FINE, NARROW = Bounds.alike(2, 2, 2), Bounds.alike(2, 1, 1)
NO_PAPERS = [None, True, 3, (), [()], "good", Paper("good", (0, 1)), Denial("stuck", ((),)), BOLD]


class GoodTest(Case):
    def test_wrong_deals(self):
        self.check_each_raises(BadDeal("deal"), NO_DEALS, lambda value: shows_good(value, Good(())))

    def test_right_and_bent_papers(self):
        turns = Deal(CUP, Bounds([2, 0], [0, 2]))
        self.assertIs(True, shows_good(turns, Good([0, 1])))
        self.assertIs(True, shows_good(deal=turns, value=find_row(turns)))
        for row in [
            (1, 0), (), (0,), (0, 1, 1), (0, 0), (0, 2), (-1, 0), (0, 1, 2), (False, True), (0, True), (Ratio(0), 1), ("0", "1"),
            (0, None), ((0, 1),), "01", None, 3, True, (0.0, 1.0), {0: 1},
        ]:
            self.assertIs(False, shows_good(turns, Good(row)), row)
        for value in [*NO_PAPERS, Stuck([]), Sides([0, 1])]:
            self.assertIs(False, shows_good(turns, value))

    def test_any_good_row_is_shown(self):
        for deal in random_deals(101, 40, 4):
            for row in itertools.permutations(range(len(deal))):
                self.assertIs(plain_good(deal, row), shows_good(deal, Good(row)))

    def test_no_size_is_refused(self):
        many = Deal(Swap(CUP.strangers, CUP.hands * 20), Bounds.alike(2, 2, 3))
        self.assertTrue(shows_good(many, Good(list(range(40)))))
        self.assertFalse(shows_good(many, Good(list(range(40))[::-2] + list(range(40))[::2])))
        self.assertTrue(shows_good(Deal(NO_HANDS, Bounds.zero(2)), Good([])))

    def test_a_paper_of_a_class_below_is_none(self):
        class Better(Good):
            pass

        self.assertFalse(shows_good(BOLD, Better((0, 1))))


class StuckTest(Case):
    def test_wrong_deals(self):
        self.check_each_raises(BadDeal("deal"), NO_DEALS, lambda value: shows_stuck(value, Stuck(())))

    def test_right_papers(self):
        self.assertEqual(STUCK_SETS, find_row(STUCK).sets)
        self.assertIs(True, shows_stuck(STUCK, Stuck(STUCK_SETS)))
        self.assertIs(True, shows_stuck(deal=STUCK, value=Stuck([[], [0], [1]])))

    def test_a_closed_list_that_is_not_the_least_one(self):
        swap = Swap.read("a b | a b 1 1 | a b 1 1 | b a 2 2 | a b 7 7")
        deal = Deal(swap, Bounds([0, 0], [None, None]))
        self.assertEqual([(), (0, 1, 2)], allowed_sets(deal))
        self.assertEqual(Stuck([()]), find_row(deal))
        self.assertTrue(shows_stuck(deal, Stuck([()])))
        self.assertTrue(shows_stuck(deal, Stuck([(), (0, 1, 2)])))
        self.assertFalse(shows_stuck(deal, Stuck([(0, 1, 2)])))

    def test_a_list_that_a_leaning_closes(self):
        deal = Deal(CUP, Bounds([2, 0], [0, 2]), [(1, 0)])
        self.assertTrue(shows_stuck(deal, Stuck([()])))
        self.assertFalse(shows_stuck(deal, Stuck([(), (0,)])))
        self.assertFalse(shows_stuck(Deal(CUP, Bounds([2, 0], [0, 2])), Stuck([()])))

    def test_bent_papers(self):
        for sets in [
            (), ((),), ((), (0,)), ((), (1,)), ((0,), (1,)), ((), (1,), (0,)), ((0,), (), (1,)), ((), (0,), (0,), (1,)), ((), (), (0,), (1,)),
            ((), (0,), (1,), (2,)), ((), (0,), (1,), (0, 1)), ((), (0,), (1,), (0, 1, 2)), ((), (0,), (1,), (3,)), ((), (-1,), (0,), (1,)),
            ((), (0,), (True,)), ((), (False,), (1,)), ((), (0,), (Ratio(1),)), ((), (0,), (1, 1)), ((), (0,), (1,), None), ((), (0,), (1,), "2"),
            ((), 0, 1), None, 3, "", True, ((), (0,), ("1",)), ((), (0,), (1.0,)), ((), (0,), ((1,),)), ((), (0,), (1,), (2, 0)),
        ]:
            self.assertIs(False, shows_stuck(STUCK, Stuck(sets)), sets)
        for value in [*NO_PAPERS, Good(STUCK_SETS), StuckKinds(STUCK_SETS), Denial("stuck", STUCK_SETS)]:
            self.assertIs(False, shows_stuck(STUCK, value))

    def test_a_set_out_of_its_own_order(self):
        deal = Deal(Swap.read("a b | a b 1 1 | a b 1 1 | a b 1 1"), Bounds([2, None], [None, None]))
        sets = find_row(deal).sets
        self.assertEqual(7, len(sets))
        self.assertTrue(shows_stuck(deal, Stuck(sets)))
        for place, done in enumerate(sets):
            if len(done) == 2:
                self.assertFalse(shows_stuck(deal, Stuck([*sets[:place], done[::-1], *sets[place + 1:]])))

    def test_every_bent_list_is_read_by_trying_all(self):
        for deal in random_deals(102, 40, 4):
            found = find_row(deal)
            if found:
                self.assertFalse(shows_stuck(deal, Stuck(allowed_sets(deal))))
                continue
            self.assertTrue(shows_stuck(deal, found))
            for place in range(len(found.sets)):
                self.assertFalse(shows_stuck(deal, Stuck(found.sets[:place] + found.sets[place + 1:])))
            allowed = [done for done in allowed_sets(deal) if len(done) < len(deal)]
            told = set(allowed)
            closed = all(
                tuple(sorted((*done, number))) in told
                for done in allowed for number in range(len(deal))
                if number not in done and plain_allowed(deal, sorted((*done, number)))
            )
            self.assertIs(closed, shows_stuck(deal, Stuck(allowed)))

    def test_an_empty_set_that_is_not_allowed(self):
        deal = Deal(Swap.read("a b | a b 2 3 | a b 1 1"), Bounds([None, None], [1, None]))
        self.assertTrue(shows_stuck(deal, Stuck(())))
        self.assertFalse(shows_stuck(deal, Stuck([()])))
        self.assertFalse(shows_stuck(deal, Stuck([(0,)])))

    def test_a_full_set_that_is_not_allowed(self):
        deal = Deal(Swap.read("a b | a b 2 3 | a b 1 1"), Bounds([2, None], [None, None]))
        self.assertTrue(shows_stuck(deal, Stuck([(), (0,), (1,)])))
        self.assertFalse(shows_stuck(deal, Stuck([(), (0,), (1,), (0, 1)])))

    def test_no_size_is_refused(self):
        many = Deal(Swap(CUP.strangers, CUP.hands * 20), Bounds.zero(2))
        self.assertTrue(shows_stuck(many, Stuck([()])))
        self.assertFalse(shows_stuck(many.with_bounds(WIDE), Stuck([()])))
        none = Deal(NO_HANDS, Bounds.zero(2))
        self.assertFalse(shows_stuck(none, Stuck([])) or shows_stuck(none, Stuck([()])))


class StuckKindsTest(Case):
    def test_wrong_deals(self):
        self.check_each_raises(BadDeal("deal"), NO_DEALS, lambda value: shows_stuck_kinds(value, StuckKinds(())))
        self.check_raises(BadDeal("leanings"), shows_stuck_kinds, Deal(CUP, WIDE, [(0, 1)]), None)

    def test_bent_papers(self):
        deal = Deal(Swap.read("a b | a b 1 1 | b a 4 4 | a b 1 1 | a b 1 1 | a b 1 1"), Bounds([2, 0], [0, 2]))
        counts = find_by_kinds(deal).counts
        self.assertEqual(((0, 0), (1, 0), (2, 0)), counts)
        self.assertIs(True, shows_stuck_kinds(deal, StuckKinds(counts)))
        self.assertIs(True, shows_stuck_kinds(deal=deal, value=StuckKinds([[0, 0], [1, 0], [2, 0]])))
        for told in [
            (), ((0, 0),), ((0, 0), (1, 0)), ((1, 0), (2, 0)), ((0, 0), (2, 0), (1, 0)), ((0, 0), (1, 0), (1, 0), (2, 0)), (*counts, (3, 0)),
            (*counts, (4, 1)), (*counts, (5, 0)), ((0, 0), (True, 0), (2, 0)), ((0, 0), (1, False), (2, 0)), ((0, 0), (Ratio(1), 0), (2, 0)),
            ((0, 0), (1,), (2, 0)), ((0, 0), (1, 0, 0), (2, 0)), ((-1, 0), *counts), None, 3, "", ((0, 0), None, (2, 0)), ((0, 0), (1.0, 0), (2, 0)),
            ((0, 0), ("1", 0), (2, 0)), (0, 1, 2),
        ]:
            self.assertIs(False, shows_stuck_kinds(deal, StuckKinds(told)), told)
        for value in [*NO_PAPERS, Stuck(counts), Good(counts), Denial("stuckkinds", counts)]:
            self.assertIs(False, shows_stuck_kinds(deal, value))

    def test_by_kinds_as_by_sets(self):
        tried = 0
        for deal in random_deals(103, 80, 5, leanings=False):
            found = find_by_kinds(deal)
            if not found:
                tried += 1
                self.assertTrue(shows_stuck_kinds(deal, found))
                for place in range(len(found.counts)):
                    self.assertFalse(shows_stuck_kinds(deal, StuckKinds(found.counts[:place] + found.counts[place + 1:])))
        self.assertGreater(tried, 15)

    def test_no_size_is_refused(self):
        hands = [HandOver("ann", "bob", 1, number) for number in range(40)]
        deal = Deal(Swap(CUP.strangers, hands), Bounds([0, None], [None, None]))
        self.assertTrue(shows_stuck_kinds(deal, StuckKinds([(0,) * 40])))
        self.assertFalse(shows_stuck_kinds(deal.with_bounds(WIDE), StuckKinds([(0,) * 40])))
        none = Deal(NO_HANDS, Bounds.zero(2))
        self.assertFalse(shows_stuck_kinds(none, StuckKinds([])) or shows_stuck_kinds(none, StuckKinds([()])))


class SidesTest(Case):
    def test_wrong_values(self):
        for work in (shows_sides, shows_gap):
            self.check_each_raises(BadHandOver("one"), [*NO_NUMBERS, CUP], lambda value: work(value, -1, None, -1, None, None))
            for value in [*NO_NUMBERS, -1]:
                self.check_raises(BadNumber("many"), work, ONE, value, None, -1, None, None)
                self.check_raises(BadNumber("more"), work, ONE, 0, OTHER, value, None, None)
            self.check_each_raises(BadHandOver("other"), [*NO_NUMBERS, CUP], lambda value: work(ONE, 1, value, -1, None, None))
            self.check_each_raises(BadBounds("bounds"), [*NO_NUMBERS, CUP], lambda value: work(ONE, 1, ONE, 1, value, None))
            self.check_raises(Unlike("strangers"), work, ONE, 1, ONE, 1, Bounds.zero(3), None)
            self.check_raises(Unlike("bounds"), work, ONE, 1, OTHER, 1, Bounds.zero(3), None)
            self.check_raises(NoWay((0, 0), "ann"), work, ONE, 501, OTHER, 1, Bounds.zero(2), None)
            self.check_raises(NoWay((2, 1), "ann"), work, ONE, 2, OTHER, 1, Bounds([3, 0], [4, 4]), None)

    def test_right_and_bent_sides(self):
        found = two_sides(ONE, 2, OTHER, 3, FINE)
        self.assertIs(True, shows_sides(ONE, 2, OTHER, 3, FINE, found))
        self.assertIs(True, shows_sides(one=ONE, many=2, other=OTHER, more=3, bounds=FINE, value=Sides([1, 0, 1, 0, 1])))
        self.assertIs(True, shows_sides(ONE, 2, OTHER, 3, WIDE, Sides([1, 1, 0, 0, 1])))
        for row in [
            (), (1, 0, 1, 0), (1, 0, 1, 0, 1, 1), (0, 1, 1, 0, 1), (1, 1, 0, 0, 1), (1, 0, 1, 1, 0), (True, 0, 1, 0, 1), (1, False, 1, 0, 1),
            (Ratio(1), 0, 1, 0, 1), (1, 0, 1, 0, 2), (1, 0, 1, -1, 2), (2, -1, 1, 0, 1), None, "10101", 10101, (1, 0, 1, 0, None), (1.0, 0, 1, 0, 1),
            (1, 0, 1, 0, (1,)), (1, 0, 1, 0, 0), (1, 1, 1, 0, 1),
        ]:
            self.assertIs(False, shows_sides(ONE, 2, OTHER, 3, FINE, Sides(row)), row)
        for value in [*NO_PAPERS, Good((1, 0, 1, 0, 1)), Gap(0), Paper("sides", (1, 0, 1, 0, 1))]:
            self.assertIs(False, shows_sides(ONE, 2, OTHER, 3, FINE, value))

    def test_right_and_bent_gaps(self):
        self.assertIs(True, shows_gap(ONE, 2, OTHER, 3, NARROW, two_sides(ONE, 2, OTHER, 3, NARROW)))
        self.assertIs(True, shows_gap(one=ONE, many=2, other=OTHER, more=3, bounds=NARROW, value=Gap(1)))
        for place in [-1, 2, 3, None, True, False, Ratio(0), "0", (0,), 0.0, 10 ** 30]:
            self.assertIs(False, shows_gap(ONE, 2, OTHER, 3, NARROW, Gap(place)), place)
        for place in (0, 1):
            self.assertIs(False, shows_gap(ONE, 2, OTHER, 3, FINE, Gap(place)))
        for value in [*NO_PAPERS, Good(0), Sides(0), Denial("gap", 0)]:
            self.assertIs(False, shows_gap(ONE, 2, OTHER, 3, NARROW, value))

    def test_any_gap_and_any_good_tuple_by_trying_all(self):
        rnd = random.Random(104)
        for _ in range(120):
            one = HandOver("ann", "bob", rnd.randrange(4), rnd.randrange(4))
            other = HandOver("bob", "ann", rnd.randrange(4), rnd.randrange(4))
            many, more = rnd.randrange(4), rnd.randrange(4)
            bounds = Bounds([rnd.randrange(4), rnd.randrange(4)], [rnd.randrange(4), rnd.randrange(4)])
            deal = Deal(Swap(("ann", "bob"), [one] * many + [other] * more), bounds)
            fits = {(i, j) for i in range(many + 1) for j in range(more + 1)
                    if plain_allowed(deal, [*range(i), *range(many, many + j)])}
            if not {(0, 0), (many, more)} <= fits:
                continue
            for place in range(many):
                gap = not any({(place, j), (place + 1, j)} <= fits for j in range(more + 1))
                self.assertIs(gap, shows_gap(one, many, other, more, bounds, Gap(place)))
            for row in itertools.product((0, 1), repeat=many + more):
                ways = [(row[:k].count(0), row[:k].count(1)) for k in range(len(row) + 1)]
                self.assertIs(set(ways) <= fits, shows_sides(one, many, other, more, bounds, Sides(row)))

    def test_no_size_is_refused(self):
        there, back = HandOver("ann", "bob", 2, 2), HandOver("bob", "ann", 2, 2)
        turns = Bounds([2, 0], [0, 2])
        self.assertTrue(shows_sides(there, 1000, back, 1000, turns, Sides((0, 1) * 1000)))
        self.assertFalse(shows_sides(there, 1000, back, 1000, turns, Sides((1, 0) * 1000)))
        huge = 10 ** 30
        self.assertFalse(shows_sides(there, huge, back, huge, turns, Sides((0, 1))))
        self.assertFalse(shows_gap(there, huge, back, huge, turns, Gap(huge // 2)))
        self.assertTrue(shows_gap(there, huge, back, huge, Bounds.zero(2), Gap(huge - 1)))
        self.assertFalse(shows_gap(there, huge, back, huge, Bounds.zero(2), Gap(huge)))


if __name__ == "__main__":
    unittest.main()
