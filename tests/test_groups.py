"""The most groups, the least greatest group, the fewest groups; what shows them."""

import random
import unittest

from lastgiver.bounds import Bounds
from lastgiver.check_groups import shows_few, shows_most, shows_narrow
from lastgiver.deals import Deal
from lastgiver.errors import BadDeal, BadNumber, LastError, NoWay, TooMany, TooNarrow
from lastgiver.groups import Few, Most, Narrow, fewest_groups, least_group, most_groups
from lastgiver.numbered import Rows
from lastgiver.roads import enough_bounds
from lastgiver.swaps import Swap
from lastgiver.turned_deals import exchanged, handed_back_deal
from lastgiver.ways import Way, count_ways

from support import CUP, NO_DEALS, NO_NUMBERS, Case, plain_sums, random_swap
from support_ways import (
    BARE, BOTH, NO_BEGINNING, NO_END, NONE, allowed_in, is_way, plain_ways, right_few, right_most, right_narrow, way_deals,
)


def many_hands(many):
    """A deal of so many hand-overs in which all sets are allowed."""
    return Deal(Swap(CUP.strangers, (CUP.hands * 20)[:many]), Bounds.alike(2, None, None))


class ErrorsTest(Case):
    def test_wrong_values(self):
        for work in (most_groups, least_group, lambda deal: fewest_groups(deal, 1)):
            self.check_each_raises(BadDeal("deal"), NO_DEALS, work)
            self.check_raises(NoWay((), "ann"), work, NO_BEGINNING)
            self.check_raises(NoWay((0,), "ann"), work, NO_END)
            self.check_raises(TooMany("hands", 8), work, many_hands(9))
            self.check_raises(NoWay((), "a"), work, Deal(Swap.read("a b" + " | a b 1 1" * 40), Bounds.zero(2)))
        self.check_each_raises(BadDeal("deal"), NO_DEALS, lambda value: fewest_groups(value, 0))

    def test_largest(self):
        self.check_each_raises(BadNumber("largest"), [*NO_NUMBERS, 0, -1], lambda value: fewest_groups(NO_BEGINNING, value))
        self.check_raises(TooMany("hands", 8), fewest_groups, deal=many_hands(9), largest=1)
        self.check_raises(TooNarrow(2), fewest_groups, BOTH, 1)
        self.check_raises(TooNarrow(3), fewest_groups, BARE, 2)
        self.check_same(((0, 1, 2),), fewest_groups(BARE, 10 ** 30).groups)


class PapersTest(Case):
    def test_most(self):
        found = most_groups(BOTH)
        self.check_same((Most, "most", True, 2), (type(found), found.word, bool(found), found.number))
        self.check_same((((), 0), ((0, 1), 1), ((1, 2), 1), ((0, 1, 2), 2)), found.ranks)
        self.check_same((0, (), (((), 0),)), most_groups(NONE).parts)
        self.check_same(8, most_groups(many_hands(8)).number)

    def test_narrow(self):
        found = least_group(BOTH)
        self.check_same((Narrow, "narrow", True, 2, ((),)), (type(found), found.word, bool(found), found.number, found.fence))
        self.check_same((0, (), ()), least_group(NONE).parts)
        self.check_same((3, ((0, 1, 2),), ((),)), least_group(BARE).parts)
        found = least_group(many_hands(8))
        self.check_same((1, ((),)), (found.number, found.fence))

    def test_few(self):
        found = fewest_groups(BOTH, 2)
        self.check_same((Few, "few", True, 2), (type(found), found.word, bool(found), found.number))
        self.check_same((((), 0), ((0, 1), 1), ((1, 2), 1), ((0, 1, 2), 2)), found.ranks)
        self.check_same((1, ((0, 1, 2),)), fewest_groups(BOTH, 3).parts[:2])
        self.check_same((0, (), (((), 0),)), fewest_groups(NONE, 1).parts)
        self.check_same(4, fewest_groups(many_hands(8), 2).number)

    def test_sets_that_no_moves_lead_to_have_no_rank(self):
        deal = Deal(Swap.read("a b | a b 1 1 | b a 1 1 | a b 2 2 | b a 2 2 | a b 2 2 | b a 2 2"), Bounds([0, 0], [0, 0]))
        self.assertEqual(2, least_group(deal).number)
        for largest in (2, 3):
            ranks = dict(fewest_groups(deal, largest).ranks)
            self.assertTrue(right_few(deal, largest, fewest_groups(deal, largest).parts))
            self.assertTrue(set(ranks) <= set(allowed_in(deal)))

    def test_by_trying_all_ways(self):
        narrow = 0
        for deal in way_deals(841, 130):
            ways = plain_ways(deal)
            found = most_groups(deal)
            self.assertEqual(max(len(groups) for groups in ways), found.number)
            self.assertTrue(right_most(deal, found.parts) and shows_most(deal, found))
            self.assertEqual([done for done, _ in found.ranks], allowed_in(deal))
            found = least_group(deal)
            self.assertEqual(min(max([0, *map(len, groups)]) for groups in ways), found.number)
            self.assertTrue(right_narrow(deal, found.parts) and shows_narrow(deal, found))
            moved = [()] if len(deal) else []
            for done in allowed_in(deal)[1:]:
                if any(set(one) < set(done) and len(done) - len(one) < found.number for one in moved):
                    moved.append(done)
            self.check_same(tuple(moved), found.fence)
            for largest in (1, 2, 3, 5):
                fit = [len(groups) for groups in ways if all(len(group) <= largest for group in groups)]
                if fit:
                    found = fewest_groups(deal, largest)
                    self.assertEqual(min(fit), found.number)
                    self.assertTrue(right_few(deal, largest, found.parts) and shows_few(deal, largest, found))
                    self.check_same(self.plain_ranks(deal, largest), found.ranks)
                else:
                    narrow += 1
                    self.check_raises(TooNarrow(least_group(deal).number), fewest_groups, deal, largest)
        self.assertGreater(narrow, 5)

    def plain_ranks(self, deal, largest):
        """The fewest moves that lead to each set, by layers."""
        ranks, layer = {(): 0}, [()]
        while layer:
            further = [
                done for done in allowed_in(deal) if done not in ranks
                and any(set(one) < set(done) and len(done) - len(one) <= largest for one in layer)
            ]
            ranks.update({done: ranks[layer[0]] + 1 for done in further})
            layer = further
        return tuple((done, ranks[done]) for done in allowed_in(deal) if done in ranks)

    def test_groups_are_those_of_ways(self):
        for deal in way_deals(842, 80):
            for found in (most_groups(deal), least_group(deal), fewest_groups(deal, max(1, len(deal)))):
                self.assertTrue(is_way(deal, found.groups))
                self.check_same(found.groups, Way(deal, found.groups).groups)


class FactsTest(Case):
    def test_good_rows(self):
        kinds = set()
        for deal in way_deals(851, 150):
            good = bool(Rows(deal))
            kinds.add(good)
            self.assertIs(good, least_group(deal).number <= 1)
            self.assertIs(good, most_groups(deal).number == len(deal))
        self.assertEqual({True, False}, kinds)

    def test_fewest_groups_never_grow(self):
        for deal in way_deals(852, 100):
            least = max(1, least_group(deal).number)
            told = [fewest_groups(deal, largest).number for largest in range(least, len(deal) + 3)]
            self.assertEqual(sorted(told, reverse=True), told)
            self.assertEqual(1 if len(deal) else 0, fewest_groups(deal, max(1, len(deal))).number)

    def test_turned_deals(self):
        back = 0
        for deal in way_deals(853, 150, 4):
            turned = [exchanged(deal)]
            try:
                turned.append(handed_back_deal(deal))
                back += 1
            except LastError:
                pass
            for other in turned:
                self.assertEqual(most_groups(deal).number, most_groups(other).number)
                self.assertEqual(least_group(deal).number, least_group(other).number)
                for largest in (1, 2, 3, 4):
                    self.assertEqual(count_ways(deal, largest), count_ways(other, largest))
                    if largest >= least_group(deal).number:
                        self.assertEqual(fewest_groups(deal, largest).number, fewest_groups(other, largest).number)
        self.assertGreater(back, 20)

    def test_enough_bounds(self):
        rnd = random.Random(854)
        for _ in range(120):
            swap = random_swap(rnd, rnd.choice([2, 3]), rnd.randrange(7))
            self.assertLessEqual(least_group(Deal(swap, enough_bounds(swap))).number, 1)

    def test_first_and_last_groups(self):
        rnd = random.Random(855)
        tried = 0
        for _ in range(400):
            swap = random_swap(rnd, rnd.choice([2, 3]), rnd.randrange(1, 5))
            many = len(swap.strangers)
            for trusts, pledges in (([0] * many, [9] * many), ([9] * many, [0] * many)):
                deal = Deal(swap, Bounds(trusts, pledges))
                if not (deal.is_allowed(()) and deal.is_allowed(tuple(range(len(deal))))):
                    continue
                tried += 1
                for groups in plain_ways(deal):
                    group = groups[0] if trusts[0] == 0 else groups[-1]
                    self.assertTrue(all(total >= 0 for total in plain_sums(swap, group)))
        self.assertGreater(tried, 100)


if __name__ == "__main__":
    unittest.main()
