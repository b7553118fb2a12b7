"""Hand-overs and swaps."""

import unittest

from lastgiver.errors import BadHandOver, BadNumber, BadSwap, BadText, NoHand, NoStranger, TooMany, Twice, Unlike
from lastgiver.ratios import Ratio
from lastgiver.swaps import HandOver, Swap

from support import CUP, NO_AMOUNTS, NO_HANDS, NO_LISTS, NO_NAMES, NO_NUMBERS, NO_RATIOS, Case, line

SIX = ("a", "b", "c", "d", "e", "f")
GIFT = HandOver("a", "b", 0, 0)
NO_STRANGERS = [*NO_LISTS, [], (), ["ann"], ["ann", "Bob"], ("ann", None), ["ann", 3], "ab", {"ann": 1, "bob": 2}]
NO_HAND_LISTS = [*NO_LISTS, [None], ("ann bob 2 3",), [["ann", "bob", 2, 3]], CUP.hands[0]]


class HandOversTest(Case):
    def test_attributes(self):
        hand = HandOver("ann", "bob", 2, Ratio(3, 2))
        self.check_same(["ann", "bob", Ratio(2), Ratio(3, 2)], [hand.giver, hand.taker, hand.cost, hand.gain])
        self.assertEqual(hand, HandOver(gain=Ratio(3, 2), cost=2, taker="bob", giver="ann"))
        self.check_same([Ratio(0), Ratio(0)], [GIFT.cost, GIFT.gain])

    def test_wrong_parts(self):
        self.check_each_raises(BadHandOver("giver"), NO_NAMES, lambda value: HandOver(value, "bob", 2, 3))
        self.check_each_raises(BadHandOver("taker"), [*NO_NAMES, "ann"], lambda value: HandOver("ann", value, 2, 3))
        self.check_each_raises(BadHandOver("cost"), NO_AMOUNTS, lambda value: HandOver("ann", "bob", value, 3))
        self.check_each_raises(BadHandOver("gain"), NO_AMOUNTS, lambda value: HandOver("ann", "bob", 2, value))

    def test_the_first_wrong_part_is_told(self):
        self.check_raises(BadHandOver("giver"), HandOver, None, None, None, None)
        self.check_raises(BadHandOver("taker"), HandOver, "ann", "ann", -1, -1)
        self.check_raises(BadHandOver("cost"), HandOver, "ann", "bob", -1, -1)

    def test_returned(self):
        hand = HandOver("ann", "bob", 2, 3)
        self.assertEqual(HandOver("bob", "ann", 3, 2), hand.returned())
        self.assertEqual(hand, hand.returned().returned())

    def test_effect(self):
        hand = HandOver("ann", "bob", 2, Ratio(3, 2))
        self.check_same([Ratio(-2), Ratio(3, 2), Ratio(0)], [hand.effect("ann"), hand.effect(name="bob"), hand.effect("cay")])
        for value in NO_NAMES:
            self.check_same(Ratio(0), hand.effect(value))

    def test_equality(self):
        others = [("bob", "ann", 2, 3), ("cay", "bob", 2, 3), ("ann", "cay", 2, 3), ("ann", "bob", 1, 3), ("ann", "bob", 2, 2)]
        self.check_equality(lambda: HandOver("ann", "bob", 2, 3), [HandOver(*told) for told in others])

    def test_texts(self):
        for text in ["ann bob 2 3", "a b 0 0", "a1 b2 1/2 7/3", "ann bob " + "9" * 60 + " 1/" + "7" * 60]:
            self.check_read(HandOver, text)
        self.assertEqual("ann bob 2 3", str(HandOver("ann", "bob", Ratio(4, 2), 3)))

    def test_texts_that_cannot_be_read(self):
        for text, word in [
            ("", 0), ("Ann bob 2 3", 0), (" ann bob 2 3", 0), ("ann", 1), ("ann ", 1), ("ann ann 2 3", 1), ("ann  bob", 1),
            ("ann bob", 2), ("ann bob -1 3", 2), ("ann bob wide 3", 2), ("ann bob 2", 3), ("ann bob 2 ", 3),
            ("ann bob 2 4/2", 3), ("ann bob 2 3 ", 4), ("ann bob 2 3 |", 4), ("ann bob 2 " + "9" * 61, 3),
            ("ann bob " + "1" * 61 + " x", 2), ("ann bob 2 3 4 5", 4), ("3 3 3", 0), ("ann | 2 3", 1),
        ]:
            self.check_raises(BadText(0, word), HandOver.read, text)
        for value in [None, 3, True, b"ann bob 2 3", ["ann", "bob"], CUP.hands[0]]:
            self.check_raises(BadText(0, 0), HandOver.read, value)


class SwapsTest(Case):
    def test_attributes(self):
        hands = [HandOver("a", "b", 2, 3), HandOver("a", "b", 2, 3), HandOver("b", "a", 1, 5)]
        swap = Swap(["b", "a"], hands)
        self.check_same(("b", "a"), swap.strangers)
        self.assertEqual((tuple, tuple(hands)), (type(swap.hands), swap.hands))
        self.check_same(line(5, 1), swap.nets)
        self.assertEqual(swap, Swap(hands=tuple(hands), strangers=("b", "a")))
        self.check_same(line(0, 0), NO_HANDS.nets)
        self.assertEqual((6, 40), (Swap.MOST_STRANGERS, Swap.MOST_HANDS))

    def test_what_is_passed_is_copied(self):
        strangers, hands = ["a", "b"], [GIFT]
        swap = Swap(strangers, hands)
        strangers.append("c")
        hands.append(GIFT)
        self.assertEqual((("a", "b"), (GIFT,)), (swap.strangers, swap.hands))
        self.assertEqual((["a", "b", "c"], 2), (strangers, len(hands)))

    def test_a_stranger_without_hand_overs(self):
        swap = Swap(SIX, [HandOver("f", "a", 1, 2)])
        self.check_same(line(2, 0, 0, 0, 0, -1), swap.nets)

    def test_even_gainful_even_priced(self):
        for text, told in [
            ("a b | a b 2 3 | b a 2 3", (False, True, False)), ("a b | a b 2 3 | b a 3 2", (True, True, False)),
            ("a b", (True, True, True)), ("a b | a b 2 2", (False, False, True)), ("a b | a b 1 1 | b a 1 1", (True, True, True)),
            ("a b | a b 0 1", (False, True, False)),
        ]:
            swap = Swap.read(text)
            self.assertEqual(told, (swap.is_even, swap.is_gainful, swap.is_even_priced), text)
            for truth in (swap.is_even, swap.is_gainful, swap.is_even_priced):
                self.assertIs(bool, type(truth))

    def test_wrong_parts(self):
        self.check_each_raises(BadSwap("strangers"), NO_STRANGERS, lambda value: Swap(value, []))
        self.check_each_raises(BadSwap("hands"), NO_HAND_LISTS, lambda value: Swap(["ann", "bob"], value))
        self.check_raises(Twice("ann"), Swap, ["bob", "ann", "cay", "ann", "bob"], [])
        self.check_raises(NoStranger("c"), Swap, ["a", "b"], [GIFT, HandOver("c", "d", 1, 1)])
        self.check_raises(NoStranger("d"), Swap, ["a", "b"], [HandOver("a", "d", 1, 1), HandOver("c", "a", 1, 1)])

    def test_sizes(self):
        self.assertEqual(6, len(Swap(SIX, []).strangers))
        self.assertEqual(2, len(Swap(["a", "b"], []).strangers))
        self.check_raises(TooMany("strangers", 6), Swap, [*SIX, "g"], [])
        self.assertEqual(40, len(Swap(["a", "b"], [GIFT] * 40)))
        self.check_raises(TooMany("hands", 40), Swap, ["a", "b"], [GIFT] * 41)

    def test_the_first_error_is_told(self):
        self.check_raises(BadSwap("strangers"), Swap, ["a"], None)
        self.check_raises(BadSwap("hands"), Swap, ["a", "a"], [None])
        self.check_raises(Twice("a"), Swap, ["a", "b", "a"], [HandOver("c", "d", 1, 1)])
        self.check_raises(NoStranger("z"), Swap, [*SIX, "g"], [GIFT] * 41 + [HandOver("a", "z", 1, 1)])
        self.check_raises(TooMany("strangers", 6), Swap, [*SIX, "g"], [GIFT] * 41)

    def test_as_a_list(self):
        self.assertEqual((0, 2), (len(NO_HANDS), len(CUP)))
        self.assertEqual(list(CUP.hands), list(CUP))
        self.assertEqual(list(CUP.hands), [CUP[0], CUP[1]])
        for value in [*NO_NUMBERS, -1, 2, 10 ** 30]:
            self.check_raises(NoHand(value), CUP.__getitem__, value)
        self.check_raises(NoHand(0), NO_HANDS.__getitem__, 0)
        self.check_raises(NoHand(slice(0, 1)), lambda: CUP[0:1])

    def test_strangers_in_it(self):
        self.assertTrue("ann" in CUP and "bob" in CUP)
        for value in [*NO_NAMES, "cay", CUP.hands[0]]:
            self.assertFalse(value in CUP, value)

    def test_net(self):
        swap = Swap.read("ann bob | ann bob 2 3")
        self.check_same([Ratio(-2), Ratio(3)], [swap.net("ann"), swap.net(name="bob")])
        for value in [*NO_NAMES, "cay"]:
            self.check_raises(NoStranger(value), swap.net, value)

    def test_operators(self):
        gift = Swap.read("ann bob | ann bob 0 1/2")
        self.assertEqual("ann bob | bob ann 1/2 0", str(-gift))
        self.assertEqual("ann bob | ann bob 2 3 | bob ann 2 3 | ann bob 0 1/2", str(CUP + gift))
        self.assertEqual("ann bob | ann bob 0 1/4", str(gift * Ratio(1, 2)))
        self.assertEqual("ann bob | ann bob 6 9 | bob ann 6 9", str(CUP * 3))
        self.assertEqual("ann bob | ann bob 2 3 | bob ann 2 3", str(CUP))

    def test_operators_with_wrong_values(self):
        self.check_each_raises(BadSwap("other"), [*NO_NUMBERS, 3, CUP.hands], CUP.__add__)
        for other in [Swap(("bob", "ann"), []), Swap(("ann", "bob", "cay"), []), Swap(("bob", "ann"), [CUP[0]] * 40)]:
            self.check_raises(Unlike("strangers"), lambda: CUP + other)
        self.check_raises(TooMany("hands", 40), lambda: CUP + Swap(CUP.strangers, [CUP[0]] * 39))
        self.assertEqual(40, len(CUP + Swap(CUP.strangers, [CUP[0]] * 38)))
        self.check_each_raises(BadNumber("ratio"), [*NO_AMOUNTS, 0, Ratio(0), CUP], CUP.__mul__)

    def test_equality(self):
        self.check_equality(lambda: Swap.read(str(CUP)), [
            Swap(("bob", "ann"), CUP.hands), Swap(CUP.strangers, CUP.hands[::-1]), NO_HANDS, CUP + CUP,
            Swap(("ann", "bob", "cay"), CUP.hands),
        ])

    def test_ring(self):
        self.assertEqual("ann bob | ann bob 1 2 | bob ann 1 2", str(Swap.ring("ann", "bob")))
        told = Swap.ring("a", "b", "c", cost=Ratio(1, 2), gain=0)
        self.assertEqual("a b c | a b 1/2 0 | b c 1/2 0 | c a 1/2 0", str(told))
        self.assertEqual(6, len(Swap.ring(*SIX)))

    def test_ring_with_wrong_values(self):
        self.check_raises(BadSwap("strangers"), Swap.ring)
        self.check_raises(BadSwap("strangers"), Swap.ring, "ann")
        for value in NO_NAMES:
            self.check_raises(BadSwap("strangers"), Swap.ring, value, "ann", cost=None)
            self.check_raises(BadSwap("strangers"), Swap.ring, "ann", "bob", value)
        for value in NO_AMOUNTS:
            self.check_raises(BadNumber("cost"), Swap.ring, "a", "a", cost=value, gain=value)
            self.check_raises(BadNumber("gain"), Swap.ring, "a", "a", gain=value)
        self.check_raises(Twice("a"), Swap.ring, "a", "a")
        self.check_raises(Twice("b"), Swap.ring, *SIX, "g", "b", "a")
        self.check_raises(TooMany("strangers", 6), Swap.ring, *SIX, "g")

    def test_texts(self):
        most = " | ".join(["a b c d e f"] + ["f a 1/2 0"] * 40)
        for text in ["ann bob", "a b c d e f", "a b | b a 0 0", "b a | a b 1/2 3 | a b 1/2 3", most]:
            self.check_read(Swap, text)

    def test_texts_that_cannot_be_read(self):
        for text, word in [
            ("", 0), (" ", 0), ("ann", 1), ("ann ", 1), ("|", 0), ("ann | ann bob 1 1", 1), ("ann ann", 1), ("ann Bob", 1),
            ("a b a", 2), ("a b ", 2), ("a b  |", 2), ("a b c d e f g", 6), ("a b c d e f a", 6), ("a b c d e f f", 6),
            ("a b |", 3), ("a b | ", 3), ("a b | c a 1 1", 3), ("a b | a", 4), ("a b | a c 1 1", 4), ("a b | a a 1 1", 4),
            ("a b | a b", 5), ("a b | a b -1 1", 5), ("a b | a b 1", 6), ("a b | a b 1 2/4", 6), ("a b | a b 1 1 ", 7),
            ("a b | a b 1 1 a", 7), ("a b | a b 1 1 ;", 7), ("a b | a b 1 1 |", 8), ("a b | a b 1 1 | b", 9), ("a b ;", 2),
            ("a b | a b 1 1 | | a", 8), ("a b c | b c 1 " + "9" * 61, 7), ("a b | a b 1 1 || a b 1 1", 7),
        ]:
            self.check_raises(BadText(0, word), Swap.read, text)
        for value in [None, 3, True, b"a b", ["a", "b"], CUP]:
            self.check_raises(BadText(0, 0), Swap.read, value)

    def test_the_sign_ahead_of_a_41st_hand_over_cannot_stand(self):
        most = " | ".join(["a b"] + ["a b 1 1"] * 40)
        self.assertEqual(40, len(Swap.read(most)))
        for more in [" |", " | a b 1 1", " | x", " |  "]:
            self.check_raises(BadText(0, 202), Swap.read, most + more)


class RatiosOfSwapsTest(Case):
    def test_no_ratio_is_told_for_anything_else(self):
        for value in NO_RATIOS:
            self.check_raises(BadNumber("ratio"), lambda: CUP * value)


if __name__ == "__main__":
    unittest.main()
