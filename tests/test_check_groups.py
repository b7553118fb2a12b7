"""Whether papers about ways by groups are right: right ones, and ones bent at each place."""

import itertools
import random
import unittest

from lastgiver.bounds import Bounds
from lastgiver.check_groups import shows_behind, shows_few, shows_most, shows_narrow, shows_parting
from lastgiver.deals import Deal
from lastgiver.errors import BadDeal, BadNumber, NoHand, NoWay, Twice
from lastgiver.groups import Few, Most, Narrow, fewest_groups, least_group, most_groups
from lastgiver.papers import Paper
from lastgiver.ratios import Ratio
from lastgiver.rows import Good
from lastgiver.swaps import Swap
from lastgiver.together import Parted, Together, behind, parting

from support import CUP, NO_DEALS, NO_NUMBERS, ODD, Case, all_sets, bent, loosened, plain_allowed
from support_ways import (
    BARE, BOTH, NO_BEGINNING, NO_END, NONE, allowed_in, is_set, plain_ways, right_few, right_most, right_narrow, right_together, way_deals,
)

NO_PAPERS = [*ODD, 3, [], (), ((0, 1),), Paper("parted", ()), Good([0, 1]), Paper("most", 2, ((0, 1), (2,)), ())]
LONG = Deal(Swap(CUP.strangers, (CUP.hands * 20)[:9]), Bounds.alike(2, None, None))
LEANT = Deal(CUP, Bounds.alike(2, 9, 9), [(0, 1)])


def kind_of_sets(deal, e, f, ahead):
    """The sets that part e and f, or those that have f and not e."""
    return [done for done in all_sets(len(deal)) if ((f in done and e not in done) if ahead else ((e in done) != (f in done)))]


class PartingTest(Case):
    def test_wrong_values(self):
        for work in (shows_parting, shows_behind):
            self.check_each_raises(BadDeal("deal"), NO_DEALS, lambda value: work(value, None, None, None))
            for value in [*NO_NUMBERS, -1, 3]:
                with self.assertRaises(NoHand):
                    work(BOTH, value, value, None)
                with self.assertRaises(NoHand):
                    work(BOTH, 0, value, None)
            self.check_raises(Twice(2), work, deal=BOTH, e=2, f=2, value=None)
            losing = Deal(Swap.read("ann bob | ann bob 2 3 | ann bob 0 0"), Bounds.zero(2))
            self.check_raises(NoWay((), "ann"), work, losing, 0, 1, Parted([0]))
            for value in NO_PAPERS:
                self.assertIs(False, work(BOTH, 0, 1, value))

    def test_right_papers(self):
        for deal in way_deals(861, 60):
            for e, f in itertools.permutations(range(len(deal)), 2):
                for work, shows in ((parting, shows_parting), (behind, shows_behind)):
                    found = work(deal, e, f)
                    self.assertIs(True, shows(deal, e, f, found))
                    self.assertIs(True, shows(deal=deal, e=e, f=f, value=type(found)(*loosened(found.parts))))
                    if not found:
                        self.assertIs(True, shows(deal, e, f, Together(found.lines[::-1])))

    def test_any_allowed_set(self):
        for deal in way_deals(862, 40, 4):
            for e, f in itertools.permutations(range(len(deal)), 2):
                for shows, ahead in ((shows_parting, False), (shows_behind, True)):
                    sets = kind_of_sets(deal, e, f, ahead)
                    for done in itertools.chain.from_iterable(itertools.permutations(one) for one in all_sets(len(deal))):
                        right = is_set(len(deal), done) and done in sets and plain_allowed(deal, done)
                        self.assertIs(right, shows(deal, e, f, Parted(done)))

    def test_any_reason(self):
        losing = Deal(BARE.swap, BARE.bounds, [(1, 0), (2, 0)])
        sets = kind_of_sets(losing, 0, 1, False)
        reasons = [losing.broken(done) + tuple(tuple(vars(one).values()) for one in losing.objections(done)) for done in sets]
        for told in itertools.product(*reasons):
            self.assertIs(True, shows_parting(losing, 0, 1, Together(list(zip(sets, told)))))
        self.assertGreater(max(map(len, reasons)), 3)

    def test_bent_papers(self):
        kinds = set()
        for deal in [BOTH, BARE, LEANT, *way_deals(863, 30, 3)]:
            for e, f in itertools.permutations(range(len(deal)), 2):
                for work, shows, ahead in ((parting, shows_parting, False), (behind, shows_behind, True)):
                    sets = kind_of_sets(deal, e, f, ahead)
                    found = work(deal, e, f)
                    kinds.add((work, type(found)))
                    for parts in bent(found.parts):
                        if isinstance(parts, tuple) and len(parts) == 1:
                            if found:
                                right = is_set(len(deal), parts[0]) and parts[0] in sets and plain_allowed(deal, parts[0])
                            else:
                                right = right_together(deal, sets, parts[0])
                            self.assertIs(right, shows(deal, e, f, type(found)(*parts)), parts)
        self.assertEqual(4, len(kinds))

    def test_amounts_that_are_integers_and_numbers_that_are_none(self):
        lines = parting(BARE, 0, 1).lines
        self.assertIs(True, shows_parting(BARE, 0, 1, Together(lines)))
        for wrong in (True, "1", 1.0, None, Ratio(2)):
            bad = [(done, (*reason[:2], wrong)) for done, reason in lines]
            self.assertIs(False, shows_parting(BARE, 0, 1, Together(bad)))
        whole = [(done, (*reason[:2], reason[2].top)) for done, reason in lines]
        self.assertIs(True, shows_parting(BARE, 0, 1, Together(whole)))
        self.assertIs(False, shows_parting(BOTH, 0, 1, Parted([True, 2])))
        self.assertIs(False, shows_parting(BOTH, 0, 1, Parted([Ratio(1), 2])))
        self.assertIs(True, shows_behind(LEANT, 0, 1, Together([[[1], [0, 1]]])))
        for wrong in ([False, 1], [0, True], [Ratio(0), 1], [1, 0], [0], [0, 1, 1], ["leaning", 0], []):
            self.assertIs(False, shows_behind(LEANT, 0, 1, Together([[[1], wrong]])))

    def test_nine_hand_overs(self):
        self.assertIs(True, shows_parting(LONG, 0, 1, Parted([0])))
        self.assertIs(True, shows_behind(LONG, 0, 1, Parted([1, 8])))
        self.assertIs(False, shows_behind(LONG, 1, 0, Parted([1, 8])))
        long = Deal(Swap(CUP.strangers, (CUP.hands * 20)[:8]), Bounds.alike(2, None, None), [(0, 1)])
        lines = [(done, (0, 1)) for done in all_sets(8) if 1 in done and 0 not in done]
        self.assertIs(True, shows_behind(long, 0, 1, Together(lines)))
        long = Deal(LONG.swap, LONG.bounds, [(0, 1)])
        lines = [(done, (0, 1)) for done in all_sets(9) if 1 in done and 0 not in done]
        self.assertIs(False, shows_behind(long, 0, 1, Together(lines)))
        for many in (8, 9):
            idle = Deal(Swap.read("ann bob | ann bob 1 2 | bob ann 1 2" + " | ann bob 0 0" * (many - 2)), Bounds.zero(2))
            sets = kind_of_sets(idle, 0, 1, False)
            lines = [(done, tuple(vars(idle.objections(done)[0]).values())) for done in sets]
            self.assertIs(many == 8, shows_parting(idle, 0, 1, Together(lines)))


class NumbersTest(Case):
    SHOWS = (shows_most, shows_narrow, lambda deal, value: shows_few(deal, 2, value))

    def test_wrong_values(self):
        for work in self.SHOWS:
            self.check_each_raises(BadDeal("deal"), NO_DEALS, lambda value: work(value, None))
            self.check_raises(NoWay((), "ann"), work, NO_BEGINNING, None)
            self.check_raises(NoWay((0,), "ann"), work, NO_END, None)
            for value in NO_PAPERS:
                self.assertIs(False, work(BOTH, value))
            for value in (most_groups(BOTH), least_group(BOTH), fewest_groups(BOTH, 2)):
                right = {Most: shows_most, Narrow: shows_narrow, Few: self.SHOWS[2]}[type(value)]
                self.assertIs(work is right, work(BOTH, value))
        self.check_each_raises(BadDeal("deal"), NO_DEALS, lambda value: shows_few(value, 0, None))
        self.check_each_raises(BadNumber("largest"), [*NO_NUMBERS, 0, -1], lambda value: shows_few(NO_BEGINNING, value, None))
        self.assertIs(True, shows_few(deal=NONE, largest=1, value=Few(0, [], [[[], 0]])))
        self.assertIs(False, shows_few(BOTH, 1, fewest_groups(BOTH, 2)))

    def test_right_papers(self):
        for deal in way_deals(871, 80):
            for shows, found in ((shows_most, most_groups(deal)), (shows_narrow, least_group(deal))):
                self.assertIs(True, shows(deal, found))
                self.assertIs(True, shows(deal=deal, value=type(found)(*loosened(found.parts))))
                self.assertIs(True, shows(deal, type(found)(*found.parts[:2], found.parts[2][::-1])))
            for largest in range(max(1, least_group(deal).number), len(deal) + 2):
                found = fewest_groups(deal, largest)
                self.assertIs(True, shows_few(deal, largest, found))
                self.assertIs(True, shows_few(deal, largest, Few(*loosened(found.parts))))
                self.assertIs(True, shows_few(deal, largest, Few(*found.parts[:2], found.ranks[::-1])))

    def test_bent_papers(self):
        for deal in [BOTH, BARE, NONE, *way_deals(872, 30, 3)]:
            largest = max(1, least_group(deal).number)
            for found, shows, right in (
                (most_groups(deal), shows_most, right_most), (least_group(deal), shows_narrow, right_narrow),
                (fewest_groups(deal, largest), lambda deal, value: shows_few(deal, largest, value),
                 lambda deal, parts: right_few(deal, largest, parts)),
            ):
                for parts in bent(found.parts):
                    if isinstance(parts, tuple) and len(parts) == 3:
                        self.assertIs(right(deal, parts), shows(deal, type(found)(*parts)), parts)

    def test_other_ranks_and_fences(self):
        # More than at every set within, but not the most moves; a lesser rank than the fewest moves.
        deal = Deal(Swap(CUP.strangers, CUP.hands), Bounds.alike(2, None, None))
        ranks = [((), 0), ((0,), 1), ((1,), 1), ((0, 1), 2)]
        self.assertIs(True, shows_most(deal, Most(2, [[1], [0]], ranks)))
        self.assertIs(False, shows_most(deal, Most(1, [[0, 1]], [((), 0), ((0,), 0), ((1,), 0), ((0, 1), 1)])))
        self.assertIs(True, shows_few(deal, 1, Few(2, [[1], [0]], ranks)))
        self.assertIs(False, shows_few(deal, 2, Few(1, [[0, 1]], [((), 0), ((0, 1), 1)])))
        self.assertIs(True, shows_few(deal, 2, Few(1, [[0, 1]], [((), 0), ((0,), 1), ((1,), 0), ((0, 1), 1)])))
        self.assertIs(False, shows_few(deal, 2, Few(2, [[0], [1]], [((), 0), ((0,), 1), ((1,), 1), ((0, 1), 2)])))
        self.assertIs(False, shows_narrow(deal, Narrow(2, [[0, 1]], [[]])))
        self.assertIs(True, shows_narrow(deal, Narrow(1, [[0], [1]], [[], [1]])))
        self.assertIs(False, shows_narrow(deal, Narrow(1, [[0], [1]], [[], [0, 1]])))
        self.assertIs(False, shows_narrow(deal, Narrow(1, [[0], [1]], [[1]])))
        self.assertIs(False, shows_narrow(deal, Narrow(1, [[0], [1]], [[], []])))

    def test_any_ranks_and_fences(self):
        rnd = random.Random(873)
        kinds = []
        for deal in [BOTH, BARE, *way_deals(874, 60, 4)]:
            sets, groups = allowed_in(deal), tuple(rnd.choice(plain_ways(deal)))
            for _ in range(12):
                some = rnd.sample(sets, rnd.randrange(len(sets) + 1))
                fence = tuple(some) if rnd.random() < 0.3 else tuple({(), *some} - {tuple(range(len(deal)))})
                number = rnd.randrange(1, 4)
                right = right_narrow(deal, (number, groups, fence))
                kinds.append(right)
                self.assertIs(right, shows_narrow(deal, Narrow(number, groups, fence)))
                told = sets if rnd.random() < 0.7 else [(), *some]
                ranks = {done: rnd.choice([len(done), len(done) // 2, rnd.randrange(3)]) for done in told}
                ranks.update({(): 0, tuple(range(len(deal))): len(groups)})
                parts = (len(groups), groups, tuple(ranks.items()))
                kinds.append(right_few(deal, number, parts))
                self.assertIs(right_most(deal, parts), shows_most(deal, Most(*parts)))
                self.assertIs(kinds[-1], shows_few(deal, number, Few(*parts)))
        self.assertGreater(min(kinds.count(True), kinds.count(False)), 50)

    def test_a_fence_that_is_left_from_within(self):
        deal = Deal(CUP, Bounds.alike(2, None, None))
        self.assertIs(False, shows_narrow(deal, Narrow(2, [[0, 1]], [[], [0], [1]])))
        three = Deal(Swap.read("a b | a b 1 1 | a b 1 1 | a b 1 1"), Bounds.alike(2, None, None))
        self.assertIs(False, shows_narrow(three, Narrow(2, [[0, 1], [2]], [[], [0], [1], [2]])))

    def test_no_hand_over(self):
        self.assertIs(True, shows_most(NONE, Most(0, [], [[[], 0]])))
        self.assertIs(True, shows_narrow(NONE, Narrow(0, [], [])))
        for value in (Narrow(0, [], [[]]), Narrow(1, [], []), Narrow(False, [], []), Narrow(0, [[]], []), Narrow(0, None, [])):
            self.assertIs(False, shows_narrow(NONE, value))
        for value in (Most(0, [], []), Most(0, [], [[[], False]]), Most(False, [], [[[], 0]]), Most(1, [], [[[], 1]])):
            self.assertIs(False, shows_most(NONE, value))

    def test_nine_hand_overs(self):
        groups = [[number] for number in range(9)]
        self.assertIs(False, shows_most(LONG, Most(9, groups, [(done, len(done)) for done in all_sets(9)])))
        self.assertIs(False, shows_narrow(LONG, Narrow(1, groups, [[]])))
        self.assertIs(False, shows_few(LONG, 1, Few(9, groups, [(done, len(done)) for done in all_sets(9)])))
        deal = Deal(Swap(CUP.strangers, (CUP.hands * 20)[:8]), LONG.bounds)
        groups = groups[:8]
        self.assertIs(True, shows_most(deal, Most(8, groups, [(done, len(done)) for done in all_sets(8)])))
        self.assertIs(True, shows_narrow(deal, Narrow(1, groups, [[]])))
        self.assertIs(True, shows_few(deal, 1, Few(8, groups, [(done, len(done)) for done in all_sets(8)])))

    def test_a_class_below_is_none(self):
        class Better(Most):
            pass

        self.assertIs(False, shows_most(BOTH, Better(*most_groups(BOTH).parts)))


if __name__ == "__main__":
    unittest.main()
