"""Done sets and sums."""

import random
import unittest

from lastgiver.errors import BadDone, BadSwap, NoHand, NoStranger, TooMany, Twice
from lastgiver.ratios import Ratio
from lastgiver.sums import along, done_set, done_sets, gave, rest, sum_of, sums, took
from lastgiver.swaps import HandOver, Swap

from support import (
    CUP, NO_DEALS, NO_DONE, NO_HANDS, NO_NAMES, Case, all_sets, as_fraction, line, plain_sums, random_swap,
)

NO_SWAPS = [value for value in NO_DEALS if value is not CUP]


class SumsTest(Case):
    def of_a_done_set(self):
        """The functions of a swap and a done set, as functions of these two."""
        return [done_set, rest, sums, lambda swap, done: sum_of(swap, done, "ann"), lambda swap, done: gave(swap, done, "ann"),
                lambda swap, done: took(swap, done, "ann")]

    def test_wrong_swaps(self):
        for work in self.of_a_done_set():
            self.check_each_raises(BadSwap("swap"), NO_SWAPS, lambda value: work(value, None))
        self.check_each_raises(BadSwap("swap"), NO_SWAPS, lambda value: list(along(value, None)))
        self.check_each_raises(BadSwap("swap"), NO_SWAPS, lambda value: list(done_sets(value)))

    def test_wrong_done_sets(self):
        for work in self.of_a_done_set():
            self.check_each_raises(BadDone("done"), NO_DONE, lambda value: work(CUP, value))
            self.check_raises(NoHand(-1), work, CUP, [1, 1, -1, 2])
            self.check_raises(NoHand(2), work, CUP, (2, -1))
            self.check_raises(Twice(1), work, CUP, [1, 0, 1, 0])
            self.check_raises(NoHand(0), work, NO_HANDS, [0])
        self.check_each_raises(BadDone("numbers"), NO_DONE, lambda value: list(along(CUP, value)))
        self.check_raises(NoHand(2), lambda: list(along(CUP, [0, 0, 2])))
        self.check_raises(Twice(0), lambda: list(along(CUP, [0, 0])))

    def test_wrong_names(self):
        for work in (sum_of, gave, took):
            for value in [*NO_NAMES, "cay"]:
                self.check_raises(NoStranger(value), work, CUP, [0], value)
            self.check_raises(Twice(0), work, CUP, [0, 0], "cay")
            self.check_raises(BadDone("done"), work, CUP, None, None)

    def test_done_set_and_rest(self):
        swap = CUP + CUP
        self.check_same([(0, 2, 3), (), (0, 1, 2, 3)], [done_set(swap, [3, 0, 2]), done_set(swap, ()), done_set(swap, (3, 2, 1, 0))])
        self.check_same([(1,), (0, 1, 2, 3), ()], [rest(swap, [3, 0, 2]), rest(swap, ()), rest(swap, (3, 2, 1, 0))])
        self.check_same([(), ()], [done_set(swap=NO_HANDS, done=[]), rest(swap=NO_HANDS, done=())])

    def test_sums(self):
        rnd = random.Random(5)
        for _ in range(40):
            swap = random_swap(rnd, rnd.choice([2, 3, 6]), rnd.randrange(8))
            done = rnd.sample(range(len(swap)), rnd.randrange(len(swap) + 1))
            passed = list(done)
            found = sums(swap, done)
            self.assertEqual(plain_sums(swap, done), [as_fraction(ratio) for ratio in found])
            self.assertEqual({Ratio, tuple}, {type(found)} | {type(ratio) for ratio in found})
            for place, name in enumerate(swap.strangers):
                self.check_same(found[place], sum_of(swap, done, name))
                self.check_same(found[place], took(swap, done, name) - gave(swap, done, name))
            self.assertEqual(passed, done)
            self.check_same(swap.nets, sums(swap, list(range(len(swap)))))
            self.check_same(swap.nets, tuple(a + b for a, b in zip(found, sums(swap, rest(swap, done)))))
            self.check_same(tuple(-ratio for ratio in found), sums(-swap, done))

    def test_gave_and_took(self):
        swap = Swap.read("a b c | a b 2 3 | a c 1/2 0 | b a 1 5 | c b 0 1")
        self.check_same([Ratio(5, 2), Ratio(5)], [gave(swap, [0, 1, 2], "a"), took(swap, [0, 1, 2], "a")])
        self.check_same([Ratio(0), Ratio(0)], [gave(swap, [3], "a"), took(swap, [], "a")])
        self.check_same([Ratio(0), Ratio(4)], [gave(swap=swap, done=(3,), name="c"), took(swap=swap, done=(3, 0), name="b")])
        self.check_same(Ratio(5, 2), sum_of(swap=swap, done=(2, 0, 1), name="a"))

    def test_along(self):
        self.check_same([line(0, 0), line(3, -2), line(1, 1)], list(along(CUP, (1, 0))))
        self.check_same([line(0, 0), line(-2, 3)], list(along(swap=CUP, numbers=[0])))
        self.check_same([line(0, 0)], list(along(CUP, [])))
        self.check_same([line(0, 0)], list(along(NO_HANDS, ())))
        many = Swap(CUP.strangers, [CUP[0]] * 40)
        self.check_same(line(-80, 120), list(along(many, list(range(40))))[-1])

    def test_done_sets(self):
        self.assertEqual([()], list(done_sets(NO_HANDS)))
        for many in (1, 4, 7, 12):
            found = list(done_sets(swap=Swap(CUP.strangers, [CUP[0]] * many)))
            self.assertEqual(all_sets(many), found)
            self.assertEqual(2 ** many, len(found))
        self.check_raises(TooMany("hands", 12), lambda: list(done_sets(Swap(CUP.strangers, [CUP[0]] * 13))))
        self.check_raises(TooMany("hands", 12), lambda: list(done_sets(Swap(CUP.strangers, [CUP[0]] * 40))))

    def test_costs_and_gains_of_0(self):
        swap = Swap(["a", "b"], [HandOver("a", "b", 0, 0)] * 3)
        self.check_same(line(0, 0), sums(swap, [2, 0]))


if __name__ == "__main__":
    unittest.main()
