"""Rows begun at another place."""

import random
import unittest

from lastgiver.errors import BadNumber, BadRow, BadSwap, Loser, NoStranger
from lastgiver.starts import begun_at, bound_to, spared
from lastgiver.swaps import Swap

from support import (
    CUP, NO_HANDS, NO_LISTS, NO_NAMES, NO_NUMBERS, NO_ROWS, NO_SWAPS, Case, plain_road, plain_sums, random_swap,
)


class StartsTest(Case):
    def test_wrong_values(self):
        for row in [*NO_LISTS, [1], [0, 0], [0, 2], [1, 2], (0, True), (-1, 0), (0, 1.0), ["0"], [None], [[0]]]:
            self.check_raises(BadRow("row"), begun_at, row, None)
        for start in [*NO_NUMBERS, -1, 3, 10 ** 30]:
            self.check_raises(BadNumber("start"), begun_at, row=[2, 0, 1], start=start)
        for start in [*NO_NUMBERS, -1, 1]:
            self.check_raises(BadNumber("start"), begun_at, [], start)
        for work in (spared, bound_to):
            self.check_each_raises(BadSwap("swap"), NO_SWAPS, lambda value: work(value, None, None))
            self.check_each_raises(BadRow("row"), NO_ROWS, lambda value: work(CUP, value, None))
            for name in [*NO_NAMES, "cay", "a"]:
                with self.assertRaises(NoStranger) as caught:
                    work(swap=CUP, row=[0, 1], name=name)
                self.assertIs(name, caught.exception.name)
            losing = Swap.read("a b | a b 2 1")
            self.check_raises(Loser("a"), work, losing, (0,), "a")
            self.check_same((0,), work(losing, [0], "b"))

    def test_begun_at(self):
        self.check_same((1, 2, 0), begun_at((2, 0, 1), 2))
        row = [3, 1, 0, 2]
        self.check_same(((3, 1, 0, 2), (1, 0, 2, 3), (2, 3, 1, 0)), (begun_at(row, 0), begun_at(row, 1), begun_at(row, 3)))
        self.assertEqual([3, 1, 0, 2], row)
        self.check_same((), begun_at([], 0))
        self.assertEqual(1000, len(begun_at(list(range(1000)), 999)))

    def test_the_empty_row(self):
        self.check_same(((), ()), (spared(NO_HANDS, [], "ann"), bound_to(NO_HANDS, (), "bob")))

    def test_the_first_of_several_places(self):
        swap = Swap.read("a b | a b 1 1 | b a 1 1 | a b 1 1 | b a 1 1")
        self.check_same((1, 2, 3, 0), spared(swap, (0, 1, 2, 3), "a"))
        self.check_same((0, 1, 2, 3), bound_to(swap, (0, 1, 2, 3), "a"))
        # Somebody without hand-overs is nowhere off the road.
        idle = Swap.read("a b c | a b 1 1 | b a 1 1")
        self.check_same(((1, 0), (1, 0)), (spared(idle, (1, 0), "c"), bound_to(idle, (1, 0), "c")))

    def test_by_the_sums_less_the_road(self):
        rnd = random.Random(331)
        tried = 0
        for _ in range(150):
            swap = random_swap(rnd, rnd.choice([2, 3, 4]), rnd.randrange(1, 8), rnd.random() < 0.6)
            row = tuple(rnd.sample(range(len(swap)), len(swap)))
            for place, name in enumerate(swap.strangers):
                if swap.nets[place].sign >= 0:
                    tried += 1
                    off = [plain_sums(swap, row[:k])[place] - plain_road(swap, k)[place] for k in range(len(row))]
                    low, high = off.index(min(off)), off.index(max(off))
                    self.check_same(row[low:] + row[:low], spared(swap, row, name))
                    self.check_same(row[high:] + row[:high], bound_to(swap, list(row), name))
                    net = plain_sums(swap, row)[place]
                    for k in range(len(row) + 1):
                        self.assertGreaterEqual(plain_sums(swap, spared(swap, row, name)[:k])[place], 0)
                        self.assertLessEqual(plain_sums(swap, bound_to(swap, row, name)[:k])[place], net)
        self.assertGreater(tried, 100)


if __name__ == "__main__":
    unittest.main()
