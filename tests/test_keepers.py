"""Keepers: what is refused, what they keep, and what stands against their holding a group."""

import random
import unittest

from lastgiver.errors import BadDone, BadKeeper, BadKeepers, BadSwap, NoHand, NoKeeper, NoStranger, TooMany, Twice
from lastgiver.keepers import Keeper, Keepers
from lastgiver.ratios import Ratio
from lastgiver.swaps import Swap

from support import CUP, NO_AMOUNTS, NO_DONE, NO_HANDS, NO_LISTS, NO_NAMES, NO_SWAPS, ODD, Case, all_sets, as_fraction, random_swap
from support_ways import plain_holds, random_keepers

THREE = Swap.ring("ann", "bob", "cay")
KIN = Keeper("kin", 3, "cay", "ann", "bob")
LO = Keeper("lo", 1, "ann")
HANDS = Keepers(THREE, [1, 1, 1], KIN, LO)


class Same:
    """A value that equals any other, and is no name."""

    def __eq__(self, other):
        return True


class KeeperTest(Case):
    def test_wrong_values(self):
        self.check_each_raises(BadKeeper("name"), NO_NAMES, lambda value: Keeper(value, None, None))
        self.check_each_raises(BadKeeper("purse"), NO_AMOUNTS, lambda value: Keeper("kin", value, None, None))
        self.check_each_raises(BadKeeper("stranger"), NO_NAMES, lambda value: Keeper("kin", 0, "ann", "ann", value))
        self.check_raises(Twice("bob"), Keeper, "kin", 0, "ann", "bob", "bob", "ann")
        self.check_raises(Twice("ann"), Keeper, "kin", 0, "ann", "bob", "ann", "bob")
        self.check_raises(BadKeeper("stranger"), Keeper, "kin", 0, ["ann", "bob"])

    def test_what_it_keeps(self):
        keeper = Keeper("kin", 3, "cay", "ann", "kin")
        self.check_same(("kin", Ratio(3), ("ann", "cay", "kin")), (keeper.name, keeper.purse, keeper.relied_on_by))
        keeper = Keeper(name="kin", purse=Ratio(1, 2))
        self.check_same(("kin", Ratio(1, 2), ()), (keeper.name, keeper.purse, keeper.relied_on_by))
        self.check_same(Ratio(0), Keeper("k", 0).purse)

    def test_who_relies(self):
        for name in ("ann", "bob", "cay"):
            self.assertIs(True, name in KIN)
        for value in [*ODD, "kin", "dan", 3, [], ("ann",), Ratio(1), KIN, Same()]:
            self.assertIs(False, value in KIN)
        self.assertIs(False, "ann" in Keeper("kin", 3))

    def test_equality(self):
        self.check_equality(lambda: Keeper("kin", 3, "cay", "ann"), [
            Keeper("kin", 3, "ann"), Keeper("kin", 2, "ann", "cay"), Keeper("kit", 3, "ann", "cay"), HANDS,
        ])
        self.assertTrue(Keeper("kin", Ratio(6, 2), "ann", "cay") == Keeper("kin", 3, "cay", "ann"))

    def test_with_purse(self):
        self.check_each_raises(BadKeeper("purse"), NO_AMOUNTS, KIN.with_purse)
        found = KIN.with_purse(purse=Ratio(1, 3))
        self.check_same(("kin", Ratio(1, 3), ("ann", "bob", "cay")), (found.name, found.purse, found.relied_on_by))
        self.check_same(Ratio(3), KIN.purse)
        self.assertEqual(Keeper("kin", 0), Keeper("kin", 9).with_purse(0))


class KeepersTest(Case):
    def test_wrong_values(self):
        self.check_each_raises(BadSwap("swap"), NO_SWAPS, lambda value: Keepers(value, None, None))
        wrong = [*NO_LISTS, [], [1], (1, 2, 3), {0: 1, 1: 2}]
        self.check_each_raises(BadKeepers("worths"), wrong, lambda value: Keepers(CUP, value, None))
        self.check_each_raises(BadKeepers("worths"), NO_AMOUNTS, lambda value: Keepers(CUP, [0, value], None))
        self.check_each_raises(BadKeepers("keepers"), [*ODD, "kin", [KIN], HANDS], lambda value: Keepers(THREE, [1, 1, 1], KIN, KIN, value))

    def test_names_told_twice_and_strangers(self):
        self.check_raises(Twice("kin"), Keepers, THREE, [0, 0, 0], LO, KIN, Keeper("kin", 0, "zed"))
        self.check_raises(Twice("ann"), Keepers, THREE, [0, 0, 0], Keeper("lo", 1, "zed"), Keeper("ann", 3), KIN, KIN)
        self.check_raises(Twice("lo"), Keepers, THREE, [0, 0, 0], LO, LO, Keeper("ann", 3))

    def test_who_relies_and_is_no_stranger(self):
        wrong = [Keeper("k", 0, "bob"), Keeper("l", 0, "zed", "dan", "ann"), Keeper("m", 0, "abe"), Keeper("n", 0), Keeper("o", 0)]
        self.check_raises(NoStranger("dan"), Keepers, THREE, [0, 0, 0], *wrong)
        self.check_raises(NoStranger("k"), Keepers, THREE, [0, 0, 0], Keeper("k", 0, "k"))

    def test_four_keepers_and_five(self):
        told = [Keeper(f"k{place}", place) for place in range(5)]
        self.check_same(4, len(Keepers(THREE, [0, 0, 0], *told[:4]).keepers))
        self.check_raises(TooMany("keepers", 4), Keepers, THREE, [0, 0, 0], *told)

    def test_what_they_keep(self):
        worths = [1, Ratio(1, 2), 0]
        keepers = Keepers(THREE, worths, LO, KIN)
        worths.append(3)
        self.check_same((Ratio(1), Ratio(1, 2), Ratio(0)), keepers.worths)
        self.assertEqual((LO, KIN), keepers.keepers)
        self.assertIs(tuple, type(keepers.keepers))
        self.assertIs(THREE, keepers.swap)
        self.check_same(((), ()), (Keepers(swap=NO_HANDS, worths=()).worths, Keepers(NO_HANDS, []).keepers))

    def test_equality(self):
        self.check_equality(lambda: Keepers(THREE, [1, 1, 1], KIN, LO), [
            Keepers(THREE, [1, 1, 1], LO, KIN), Keepers(THREE, [1, 1, 2], KIN, LO), Keepers(THREE, [1, 1, 1], KIN),
            Keepers(Swap.ring("ann", "bob", "cay", gain=3), [1, 1, 1], KIN, LO), KIN,
        ])
        self.assertTrue(Keepers(Swap.read(str(THREE)), (Ratio(1), 1, 1), KIN, LO) == HANDS)

    def test_placed(self):
        self.check_each_raises(BadKeeper("keeper"), [*ODD, "kin", HANDS, [KIN]], HANDS.placed)
        self.check_raises(NoKeeper("mo"), HANDS.placed, Keeper("mo", 3, "zed"))
        self.check_raises(NoKeeper("kin"), Keepers(THREE, [1, 1, 1]).placed, KIN)
        self.check_raises(NoStranger("zed"), HANDS.placed, keeper=Keeper("lo", 3, "zed"))
        found = HANDS.placed(KIN.with_purse(2))
        self.assertEqual(Keepers(THREE, [1, 1, 1], KIN.with_purse(2), LO), found)
        self.assertEqual(Keepers(THREE, [1, 1, 1], KIN, LO), HANDS)
        self.assertEqual(Keepers(THREE, [1, 1, 1], KIN, Keeper("lo", 7)), HANDS.placed(Keeper("lo", 7)))


class ReasonsTest(Case):
    def test_wrong_values(self):
        for value in [*NO_NAMES, "ann", "mo", KIN, Same()]:
            with self.assertRaises(NoKeeper) as caught:
                HANDS.reasons(value, None)
            self.assertIs(value, caught.exception.name)
        self.check_each_raises(BadDone("group"), NO_DONE, lambda value: HANDS.reasons("kin", value))
        self.check_raises(NoHand(3), HANDS.reasons, name="lo", group=[0, 0, 3])
        self.check_raises(NoHand(-1), HANDS.reasons, "lo", [-1])
        self.check_raises(Twice(2), HANDS.reasons, "lo", (2, 2))
        for group in ([], [0], (2,)):
            self.check_raises(BadDone("group"), HANDS.reasons, "kin", group)

    def test_reasons(self):
        self.check_same((("relies", "bob"), ("relies", "cay"), ("purse", Ratio(1))), HANDS.reasons("lo", [1, 0]))
        self.check_same((), HANDS.reasons("kin", [2, 0, 1]))
        self.check_same((("purse", Ratio(1, 2)),), HANDS.placed(KIN.with_purse(Ratio(5, 2))).reasons("kin", [0, 1, 2]))
        self.check_same((("purse", Ratio(3)),), HANDS.placed(KIN.with_purse(0)).reasons("kin", [0, 1, 2]))
        self.check_same((("relies", "bob"), ("relies", "cay")), HANDS.placed(Keeper("lo", 3, "ann")).reasons("lo", [0, 1, 2]))
        free = Keepers(CUP, [0, 0], Keeper("k", 0, "bob", "ann"), Keeper("l", 0))
        self.check_same((), free.reasons("k", [1, 0]))
        self.check_same((("relies", "ann"), ("relies", "bob")), free.reasons("l", [1, 0]))
        order = Keepers(Swap.read("zed ann | ann zed 1 1 | ann zed 1 1"), [1, 1], Keeper("l", 1))
        self.check_same((("relies", "zed"), ("relies", "ann"), ("purse", Ratio(1))), order.reasons("l", [0, 1]))

    def test_by_trying_all_groups(self):
        rnd = random.Random(881)
        kinds = set()
        for _ in range(80):
            swap = random_swap(rnd, rnd.choice([2, 3, 4]), rnd.randrange(2, 6))
            keepers = random_keepers(rnd, swap, 3)
            for keeper in keepers.keepers:
                for group in all_sets(len(swap)):
                    if len(group) > 1:
                        found = keepers.reasons(keeper.name, group[::-1])
                        self.assertIs(plain_holds(keepers, keeper, group), found == ())
                        worth = sum(as_fraction(keepers.worths[number]) for number in group)
                        parties = {name for number in group for name in (swap[number].giver, swap[number].taker)}
                        told = [("relies", name) for name in swap.strangers if name in parties and name not in keeper]
                        above = Ratio(*(worth - as_fraction(keeper.purse)).as_integer_ratio())
                        told += [("purse", above)] if above.sign > 0 else []
                        self.check_same(tuple(told), found)
                        kinds.add(tuple(reason[0] for reason in found[-2:]))
        self.assertEqual({(), ("relies",), ("purse",), ("relies", "relies"), ("relies", "purse")}, kinds)


if __name__ == "__main__":
    unittest.main()
