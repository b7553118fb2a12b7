"""Swaps made of swaps."""

import random
import unittest

from lastgiver.errors import BadDone, BadNumber, BadRow, BadSwap, NoHand, NoStranger, TooMany, Twice, Unlike
from lastgiver.ratios import Ratio
from lastgiver.sums import sums
from lastgiver.swaps import HandOver, Swap
from lastgiver.turned import (
    circles, handed_back, hands_among, one_after, portion, renamed, reordered, scaled, seated,
)

from support import CUP, NO_AMOUNTS, NO_DEALS, NO_DONE, NO_HANDS, NO_LISTS, NO_NAMES, Case, random_swap

NO_SWAPS = [value for value in NO_DEALS if value is not CUP]
THREE = Swap.read("a b c | a b 2 3 | b c 0 1 | c a 1/2 5")


class TurnedTest(Case):
    def test_wrong_swaps(self):
        for work in (
            handed_back, circles, lambda value: portion(value, None), lambda value: renamed(value, None),
            lambda value: seated(value, None), lambda value: reordered(value, None), lambda value: scaled(value, None),
            lambda value: hands_among(value, None),
        ):
            self.check_each_raises(BadSwap("swap"), NO_SWAPS, work)

    def test_handed_back(self):
        self.assertEqual("a b c | b a 3 2 | c b 1 0 | a c 5 1/2", str(handed_back(THREE)))
        self.assertEqual(THREE, handed_back(handed_back(swap=THREE)))
        self.assertEqual(NO_HANDS, handed_back(NO_HANDS))

    def test_one_after(self):
        gift = Swap.read("ann bob | ann bob 0 1/2")
        told = one_after(CUP, gift, NO_HANDS, gift)
        self.assertEqual("ann bob | ann bob 2 3 | bob ann 2 3 | ann bob 0 1/2 | ann bob 0 1/2", str(told))
        self.assertEqual(CUP, one_after(CUP))
        self.assertEqual(40, len(one_after(*[CUP] * 20)))
        self.assertEqual(CUP + gift, one_after(CUP, gift))

    def test_one_after_with_wrong_values(self):
        self.check_raises(BadSwap("swaps"), one_after)
        for value in [*NO_SWAPS, [CUP], CUP.hands]:
            self.check_raises(BadSwap("swaps"), one_after, value)
            self.check_raises(BadSwap("swaps"), one_after, CUP, THREE, value)
        self.check_raises(Unlike("strangers"), one_after, *[CUP] * 30, THREE)
        self.check_raises(Unlike("strangers"), one_after, CUP, Swap(("bob", "ann"), []))
        self.check_raises(TooMany("hands", 40), one_after, *[CUP] * 20, Swap(CUP.strangers, [CUP[0]]))

    def test_portion(self):
        self.assertEqual("a b c | a b 2 3 | c a 1/2 5", str(portion(THREE, [2, 0])))
        self.assertEqual("a b c", str(portion(swap=THREE, done=())))
        self.check_each_raises(BadDone("done"), NO_DONE, lambda value: portion(THREE, value))
        self.check_raises(NoHand(3), portion, THREE, [1, 1, 3])
        self.check_raises(Twice(1), portion, THREE, (1, 1))

    def test_renamed(self):
        self.assertEqual("x a b | x a 2 3 | a b 0 1 | b x 1/2 5", str(renamed(THREE, {"b": "a", "a": "x", "c": "b"})))
        names = {"a": "a", "b": "b", "c": "c"}
        self.assertEqual(THREE, renamed(swap=THREE, names=names))
        self.assertEqual({"a": "a", "b": "b", "c": "c"}, names)

    def test_renamed_with_wrong_values(self):
        wrong = [
            *NO_LISTS, ["a", "b", "c"], {}, {"a": "x", "b": "y"}, {"a": "x", "b": "y", "d": "z"}, {"a": "x", "b": "y", "c": "Z"},
            {"a": "x", "b": "y", "c": "z", "d": "v"}, {"a": "x", "b": None, "c": "z"}, {"a": "x", "b": ["y"], "c": "z"},
            {0: "x", 1: "y", 2: "z"}, {"a": "x", "b": "x", "c": 3}, [("a", "x"), ("b", "y"), ("c", "z")],
        ]
        self.check_each_raises(BadSwap("names"), wrong, lambda value: renamed(THREE, value))
        self.check_raises(Twice("x"), renamed, THREE, {"c": "y", "b": "x", "a": "x"})
        self.check_raises(Twice("y"), renamed, THREE, {"c": "y", "b": "y", "a": "x"})

    def test_seated(self):
        self.assertEqual("c a b | a b 2 3 | b c 0 1 | c a 1/2 5", str(seated(THREE, ["c", "a", "b"])))
        self.assertEqual(THREE, seated(swap=THREE, strangers=("a", "b", "c")))
        wrong = [*NO_LISTS, [], ["a", "b"], ("a", "b", "b"), ("a", "b", "d"), ["a", "b", "c", "c"], ("a", "b", 3), "abc", [["a"], "b", "c"]]
        self.check_each_raises(BadSwap("strangers"), wrong, lambda value: seated(THREE, value))

    def test_reordered(self):
        self.assertEqual("a b c | c a 1/2 5 | a b 2 3 | b c 0 1", str(reordered(THREE, [2, 0, 1])))
        self.assertEqual(THREE, reordered(swap=THREE, order=(0, 1, 2)))
        self.assertEqual(NO_HANDS, reordered(NO_HANDS, []))
        wrong = [*NO_DONE, [], [0, 1], (0, 1, 1), (0, 1, 3), [0, 1, 2, 2], [-1, 0, 1], [True, 0, 2]]
        self.check_each_raises(BadRow("order"), wrong, lambda value: reordered(THREE, value))

    def test_scaled(self):
        self.assertEqual("a b c | a b 1 3/2 | b c 0 1/2 | c a 1/4 5/2", str(scaled(THREE, Ratio(1, 2))))
        self.assertEqual("a b c | a b 4 6 | b c 0 2 | c a 1 10", str(scaled(swap=THREE, ratio=2)))
        self.check_each_raises(BadNumber("ratio"), [*NO_AMOUNTS, 0, Ratio(0)], lambda value: scaled(THREE, value))

    def test_circles(self):
        for text, told in [
            ("a b", (("a",), ("b",))), ("a b | b a 0 0", (("a", "b"),)),
            ("c b a d | d b 1 1", (("c",), ("b", "d"), ("a",))), ("a b c d e f | f a 1 1 | c d 1 1 | d f 1 1", (("a", "c", "d", "f"), ("b",), ("e",))),
            ("a b c d | c d 1 1 | a b 1 1 | b c 1 1", (("a", "b", "c", "d"),)), ("a b c d | d c 1 1 | b a 1 1", (("a", "b"), ("c", "d"))),
        ]:
            self.check_same(told, circles(Swap.read(text)))

    def test_hands_among(self):
        swap = Swap.read("a b c | a b 1 1 | b a 1 1 | a c 1 1 | c b 1 1")
        self.check_same([(0, 1), (2,), (0, 1, 2, 3), (), ()], [
            hands_among(swap, ["b", "a", "b"]), hands_among(swap, ("c", "a")), hands_among(swap=swap, names=["a", "b", "c"]),
            hands_among(swap, []), hands_among(swap, ["a"]),
        ])
        self.check_each_raises(BadSwap("names"), [*NO_LISTS, {"a": 1}, "ab"], lambda value: hands_among(swap, value))
        for value in [*NO_NAMES, "d"]:
            self.check_raises(NoStranger(value), hands_among, swap, ["a", value, None])

    def test_what_is_passed_stays_as_it_was(self):
        names, order = ["c", "a"], [2, 1, 0]
        hands_among(THREE, names)
        reordered(THREE, order)
        self.assertEqual((["c", "a"], [2, 1, 0]), (names, order))
        self.assertEqual("a b c | a b 2 3 | b c 0 1 | c a 1/2 5", str(THREE))

    def test_a_strangers_sums_hang_on_the_hand_overs_of_its_circle_alone(self):
        rnd = random.Random(4)
        for _ in range(30):
            swap = random_swap(rnd, 6, rnd.randrange(7))
            told = circles(swap)
            among = [hands_among(swap, names) for names in told]
            self.assertEqual(list(range(len(swap))), sorted(number for done in among for number in done))
            self.assertEqual(sorted(swap.strangers), sorted(name for names in told for name in names))
            done = rnd.sample(range(len(swap)), rnd.randrange(len(swap) + 1))
            for names, hands in zip(told, among):
                inner = sums(swap, [number for number in done if number in hands])
                for name in names:
                    place = swap.strangers.index(name)
                    self.assertEqual(sums(swap, done)[place], inner[place])


if __name__ == "__main__":
    unittest.main()
