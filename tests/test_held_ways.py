"""Held ways: strokes, sets that are come to, and how many there are."""

import random
import unittest

from lastgiver.bounds import Bounds
from lastgiver.check_hands import shows_held
from lastgiver.deals import Deal
from lastgiver.errors import BadDeal, BadKeepers, TooMany, Unlike
from lastgiver.groups import least_group
from lastgiver.held_ways import Held, NotHeld, count_held, held_way
from lastgiver.keepers import Keeper, Keepers
from lastgiver.numbered import Rows
from lastgiver.purses import least_purse
from lastgiver.swaps import Swap
from lastgiver.turned_deals import exchanged

from support import CUP, NO_DEALS, ODD, Case, plain_good_rows, random_deals
from support_ways import (
    BARE, BOTH, NO_BEGINNING, NONE, has_way, kept_deals, plain_come_to, plain_held_ways, plain_strokes, plain_ways, right_strokes,
    way_deals,
)

KIN = Keeper("kin", 3, "cay", "ann", "bob")
HANDS = Keepers(BARE.swap, [1, 1, 1], KIN, Keeper("lo", 1, "ann"))
LESS = HANDS.placed(KIN.with_purse(2))
EASED = Deal(BARE.swap, Bounds([1, 0, 0], [0, 1, 0]))
NO_KEEPERS = [*ODD, KIN, [KIN], "kin", BARE]


def wide_deal(many):
    """A deal of so many hand-overs in which all sets are allowed."""
    return Deal(Swap(CUP.strangers, (CUP.hands * 20)[:many]), Bounds.alike(2, None, None))


class HeldTest(Case):
    def test_wrong_values(self):
        for work in (held_way, count_held):
            self.check_each_raises(BadDeal("deal"), NO_DEALS, lambda value: work(value, None))
            self.check_each_raises(BadKeepers("keepers"), NO_KEEPERS, lambda value: work(BARE, value))
            self.check_raises(Unlike("swap"), work, deal=BOTH, keepers=HANDS)
            self.check_raises(Unlike("swap"), work, wide_deal(40), HANDS)
            for many in (9, 40):
                self.check_raises(TooMany("hands", 8), work, wide_deal(many), Keepers(wide_deal(many).swap, [1] * many))
            self.assertTrue(work(Deal(Swap.read(str(BARE.swap)), BARE.bounds), HANDS))

    def test_classes(self):
        found = held_way(EASED, LESS)
        self.check_same((Held, "held", True, (((0,), None), ((1, 2), "kin"))), (type(found), found.word, bool(found), found.strokes))
        found = held_way(BARE, LESS)
        self.check_same((NotHeld, "notheld", False, ((),)), (type(found), found.word, bool(found), found.sets))
        self.check_same((((0, 1, 2), "kin"),), held_way(BARE, HANDS).strokes)

    def test_no_hand_over_and_no_keeper(self):
        none = Keepers(NONE.swap, [])
        self.check_same(((), 1), (held_way(NONE, none).strokes, count_held(NONE, none)))
        losing = Keepers(NO_BEGINNING.swap, [1], Keeper("kin", 9, "ann", "bob"))
        self.check_same(((), 0), (held_way(NO_BEGINNING, losing).sets, count_held(NO_BEGINNING, losing)))
        self.check_same(2, count_held(wide_deal(2), Keepers(wide_deal(2).swap, [1, 1])))

    def test_two_keepers_that_hold_the_same_group(self):
        one, other = Keeper("kin", 9, "ann", "bob"), Keeper("lo", 2, "ann", "bob")
        swap = wide_deal(2).swap
        for told, many in (((one,), 3), ((one, other), 4), ((one, other.with_purse(1)), 3), ((), 2)):
            self.assertEqual(many, count_held(wide_deal(2), Keepers(swap, [1, 1], *told)))
        deal = Deal(CUP, Bounds.zero(2))
        self.check_same(2, count_held(deal, Keepers(CUP, [1, 1], one, other)))

    def test_purses_that_are_just_enough_and_one_less(self):
        for purse, many in ((3, 1), (2, 0), (0, 0)):
            self.assertEqual(many, count_held(BARE, HANDS.placed(KIN.with_purse(purse))))
        free = Keepers(BARE.swap, [0, 0, 0], KIN.with_purse(0))
        self.assertEqual(1, count_held(BARE, free))

    def test_by_trying_all_lists(self):
        kinds = []
        for deal, keepers in kept_deals(891, 220):
            ways = plain_held_ways(deal, keepers)
            found = held_way(deal, keepers)
            kinds.append(type(found))
            self.assertEqual(len(ways), count_held(deal, keepers))
            sets = plain_come_to(deal, lambda group: bool(plain_strokes(keepers, group)))
            if ways:
                self.assertIn(found.strokes, ways)
                self.assertTrue(right_strokes(deal, keepers, found.strokes))
            else:
                self.check_same(NotHeld(sets).parts, found.parts)
            self.assertIs(bool(ways), tuple(range(len(deal))) in sets)
            self.assertEqual(found, held_way(deal=deal, keepers=keepers))
        self.assertGreater(kinds.count(Held), 60)
        self.assertGreater(kinds.count(NotHeld), 60)


class FactsTest(Case):
    def test_purses_of_0_and_worths_above_0(self):
        for deal in random_deals(892, 150, 4):
            keepers = Keepers(deal.swap, [1] * len(deal), Keeper("kin", 0, *deal.swap.strangers))
            self.assertIs(bool(Rows(deal)), bool(held_way(deal, keepers)))
            self.assertEqual(Rows(deal).count, count_held(deal, keepers))

    def test_all_rely_on_a_keeper_whose_purse_is_all_worths(self):
        for deal in [*random_deals(893, 150, 4), *way_deals(894, 60, 4)]:
            keepers = Keepers(deal.swap, [2] * len(deal), Keeper("kin", 2 * len(deal), *deal.swap.strangers))
            self.assertIs(has_way(deal), bool(held_way(deal, keepers)))
            if has_way(deal):
                self.assertEqual(len(plain_ways(deal)), count_held(deal, keepers))

    def test_good_rows_are_held_ways(self):
        for deal, keepers in kept_deals(895, 80):
            for row in plain_good_rows(deal):
                self.assertTrue(shows_held(deal, keepers, Held([((number,), None) for number in row])))

    def test_the_least_purse_is_the_least_greatest_group_but_0_for_1(self):
        kinds = set()
        for deal in way_deals(896, 150):
            keepers = Keepers(deal.swap, [1] * len(deal), Keeper("kin", 0, *deal.swap.strangers))
            number = least_group(deal).number
            kinds.add(number)
            self.assertEqual(0 if number == 1 else number, least_purse(deal, keepers, "kin").number)
        self.assertTrue({0, 1, 2} <= kinds)

    def test_held_ways_of_the_exchanged_deal_are_those_from_behind(self):
        for deal, keepers in kept_deals(897, 120):
            turned = plain_held_ways(exchanged(deal), keepers)
            self.assertEqual(sorted(map(repr, turned)), sorted(repr(way[::-1]) for way in plain_held_ways(deal, keepers)))
            self.assertEqual(count_held(deal, keepers), count_held(exchanged(deal), keepers))


class GreaterDealsTest(Case):
    def test_eight_hand_overs(self):
        rnd = random.Random(898)
        deal = wide_deal(8)
        keepers = Keepers(deal.swap, [1] * 8, *[Keeper(name, 9, "ann", "bob") for name in ("k", "l", "m", "n")])
        self.assertTrue(shows_held(deal, keepers, held_way(deal, keepers)))
        # Each group of two or more can be held by four: ways by sizes.
        ways = [1]
        for size in range(1, 9):
            choose = 1
            total = 0
            for part in range(1, size + 1):
                choose = choose * (size - part + 1) // part
                total += choose * (1 if part == 1 else 4) * ways[size - part]
            ways.append(total)
        self.assertEqual(ways[8], count_held(deal, keepers))
        self.assertEqual(40320, count_held(deal, Keepers(deal.swap, [rnd.randrange(1, 5) for _ in range(8)])))


if __name__ == "__main__":
    unittest.main()
