"""What parts two hand-overs, classes, and what is never behind what."""

import unittest

from lastgiver.bounds import Bounds
from lastgiver.deals import Deal
from lastgiver.errors import BadDeal, LastError, NoHand, NoWay, TooMany, Twice
from lastgiver.ratios import Ratio
from lastgiver.swaps import Swap
from lastgiver.together import Parted, Together, behind, classes, never_behind, parting
from lastgiver.turned_deals import exchanged, handed_back_deal

from support import CUP, NO_DEALS, NO_NUMBERS, Case, all_sets, plain_allowed
from support_ways import (
    BARE, BOTH, NO_BEGINNING, NO_END, NONE, allowed_in, has_way, plain_ways, right_together, way_deals,
)


def many_hands(many):
    """A deal of so many hand-overs in which all sets are allowed."""
    return Deal(Swap(CUP.strangers, (CUP.hands * 20)[:many]), Bounds.alike(2, None, None))


def pairs_of(deal):
    """All pairs of different numbers."""
    return [(e, f) for e in range(len(deal)) for f in range(len(deal)) if e != f]


class PartingTest(Case):
    def test_wrong_values(self):
        for work in (parting, behind):
            self.check_each_raises(BadDeal("deal"), NO_DEALS, lambda value: work(value, None, None))
            for value in [*NO_NUMBERS, -1, 3, 10 ** 30]:
                with self.assertRaises(NoHand) as caught:
                    work(BOTH, value, 9)
                self.assertIs(value, caught.exception.number)
                with self.assertRaises(NoHand) as caught:
                    work(deal=BOTH, e=1, f=value)
                self.assertIs(value, caught.exception.number)
            self.check_raises(Twice(1), work, BOTH, 1, 1)
            self.check_raises(NoHand(0), work, NONE, 0, 0)
            self.check_raises(Twice(0), work, NO_BEGINNING, 0, 0)
            losing = Deal(Swap.read("ann bob | ann bob 2 3 | ann bob 0 0"), Bounds.zero(2))
            self.check_raises(NoWay((), "ann"), work, losing, 0, 1)
            self.check_raises(NoWay((0, 1), "ann"), work, losing.with_bounds(Bounds([0, 0], [2, 0])), 0, 1)
            long = Deal(Swap(losing.swap.strangers, losing.swap.hands * 20), Bounds.zero(2))
            self.check_raises(NoWay((), "ann"), work, long, 0, 1)

    def test_sizes(self):
        for work in (parting, behind):
            self.assertTrue(work(many_hands(8), 0, 7))
            self.check_raises(TooMany("hands", 8), work, many_hands(9), 0, 7)
            self.check_raises(Twice(7), work, many_hands(40), 7, 7)

    def test_classes_of_papers(self):
        found = parting(BOTH, 0, 1)
        self.check_same((Parted, "parted", True, (1, 2)), (type(found), found.word, bool(found), found.done))
        found = behind(BOTH, 1, 0)
        self.check_same((Together, "together", False), (type(found), found.word, bool(found)))
        self.check_same((((0,), ("ann", "drawn", Ratio(1))), ((0, 2), ("ann", "drawn", Ratio(2)))), found.lines)

    def test_reasons(self):
        leant = Deal(BARE.swap, BARE.bounds, [(1, 0), (2, 0)])
        self.check_same(((0,), (1, 0)), parting(leant, 0, 1).lines[0])
        self.check_same(((0, 1), (2, 0)), parting(leant, 0, 2).lines[2])
        self.check_same(((1,), ("bob", "drawn", Ratio(1))), parting(leant, 0, 1).lines[1])
        self.check_same(((2,), ("ann", "leaves", Ratio(1))), behind(BARE, 0, 2).lines[0])

    def test_by_trying_all_sets(self):
        kinds = []
        for deal in way_deals(831, 120):
            for e, f in pairs_of(deal):
                for work, sets in (
                    (parting, [done for done in all_sets(len(deal)) if (e in done) != (f in done)]),
                    (behind, [done for done in all_sets(len(deal)) if f in done and e not in done]),
                ):
                    found = work(deal, e, f)
                    kinds.append((work, type(found)))
                    good = [done for done in sets if plain_allowed(deal, done)]
                    if good:
                        self.assertEqual(Parted(good[0]), found)
                    else:
                        self.assertEqual(sets, [done for done, _ in found.lines])
                        self.assertTrue(right_together(deal, sets, found.lines))
                        for done, reason in found.lines:
                            first = deal.broken(done)[0] if deal.broken(done) else tuple(vars(deal.objections(done)[0]).values())
                            self.check_same(first, reason)
        self.assertEqual(4, len(set(kinds)))


class ClassesTest(Case):
    def test_wrong_values(self):
        for work in (classes, never_behind):
            self.check_each_raises(BadDeal("deal"), NO_DEALS, work)
            self.check_raises(NoWay((), "ann"), work, deal=NO_BEGINNING)
            self.check_raises(NoWay((0,), "ann"), work, NO_END)
            self.check_raises(TooMany("hands", 8), work, many_hands(9))
            self.check_raises(NoWay((), "a"), work, Deal(Swap.read("a b" + " | a b 1 1" * 40), Bounds.zero(2)))
            self.assertEqual(0, len(work(NONE)))
        self.check_same(tuple((number,) for number in range(8)), classes(many_hands(8)))
        self.check_same((), never_behind(many_hands(8)))

    def test_classes_that_are_no_groups(self):
        self.check_same(((0,), (1,), (2,)), classes(BOTH))
        self.assertFalse(any(len(groups) == 3 for groups in plain_ways(BOTH)))
        self.check_same(((0, 1, 2),), classes(BARE))
        self.check_same(((1, 0), (1, 2)), never_behind(BOTH))
        self.check_same(tuple(pairs_of(BARE)), never_behind(BARE))

    def test_facts_by_trying_all_ways(self):
        for deal in way_deals(832, 120, 4):
            told, never = classes(deal), never_behind(deal)
            moments = [
                {number: place for place, group in enumerate(groups) for number in group} for groups in plain_ways(deal)
            ]
            for e, f in pairs_of(deal):
                joined = all(at[e] == at[f] for at in moments)
                self.assertIs(joined, any(e in one and f in one for one in told))
                self.assertIs(joined, not parting(deal, e, f))
                self.assertIs(all(at[e] <= at[f] for at in moments), (e, f) in never)
                self.assertIs((e, f) in never, not behind(deal, e, f))
                self.assertIs(joined, (e, f) in never and (f, e) in never)
                for g in range(len(deal)):
                    if g not in (e, f) and (e, f) in never and (f, g) in never:
                        self.assertIn((e, g), never)
            self.assertTrue(set(deal.leanings.pairs) <= set(never))
            self.assertEqual(list(range(len(deal))), sorted(number for one in told for number in one))
            self.check_same(tuple(sorted(told)), told)
            self.check_same(tuple(sorted(never)), never)

    def test_turned_deals(self):
        back = 0
        for deal in way_deals(833, 150, 4):
            turned = [exchanged(deal)]
            try:
                turned.append(handed_back_deal(deal))
                back += 1
            except LastError:
                pass
            full = set(range(len(deal)))
            for other in turned:
                self.assertEqual(
                    sorted(allowed_in(deal)), sorted(tuple(sorted(full - set(done))) for done in allowed_in(other)),
                )
                self.assertEqual(classes(deal), classes(other))
                self.assertEqual(sorted((f, e) for e, f in never_behind(deal)), list(never_behind(other)))
                self.assertEqual(sorted(groups[::-1] for groups in plain_ways(deal)), sorted(plain_ways(other)))
        self.assertGreater(back, 20)

    def test_greater_bounds_and_fewer_leanings(self):
        for deal in way_deals(834, 120, 5):
            wider = [deal.with_bounds(deal.bounds | Bounds.alike(len(deal.bounds), 2, 3))]
            if len(deal.leanings) > 0:
                wider.append(Deal(deal.swap, deal.bounds, deal.leanings.pairs[1:]))
            for other in wider:
                self.assertTrue(has_way(other))
                self.assertTrue(set(allowed_in(deal)) <= set(allowed_in(other)))
                self.assertTrue(set(never_behind(other)) <= set(never_behind(deal)))
                for one in classes(other):
                    self.assertTrue(any(set(one) <= set(told) for told in classes(deal)))


if __name__ == "__main__":
    unittest.main()
