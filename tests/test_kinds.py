"""The kinds of a swap."""

import random
import unittest
from collections import Counter

from lastgiver.errors import BadCounts, BadDone, BadSwap, NoHand, Twice
from lastgiver.kinds import Kinds
from lastgiver.sums import done_sets, sums
from lastgiver.swaps import Swap

from support import CUP, NO_DEALS, NO_DONE, NO_HANDS, NO_LISTS, Case, line, random_swap

MIXED = Swap.read("a b | b a 1 1 | a b 1/2 3 | b a 1 1 | b a 1 2 | a b 1/2 3 | b a 1 1 | b a 2 1")


class KindsTest(Case):
    def test_attributes(self):
        kinds = Kinds(swap=MIXED)
        self.check_same(((0, 2, 5), (1, 4), (3,), (6,)), kinds.numbers)
        self.check_same((3, 2, 1, 1), kinds.sizes)
        self.assertEqual((tuple, tuple(MIXED[k] for k in (0, 1, 3, 6))), (type(kinds.hands), kinds.hands))
        self.assertEqual((4, 12), (len(kinds), kinds.orders))

    def test_no_hand_over_and_40(self):
        none = Kinds(NO_HANDS)
        self.assertEqual(((), (), (), 0, 1), (none.hands, none.numbers, none.sizes, len(none), none.orders))
        self.check_same([(), (), line(0, 0), 1], [none.counts_of([]), none.first_with([]), none.sums_with(()), none.sets_with(())])
        most = Kinds(Swap(CUP.strangers, [CUP[0]] * 40))
        self.assertEqual(((40,), 137846528820), (most.sizes, most.sets_with([20])))
        self.assertEqual(815915283247897734345611269596115894272000000000, most.orders)

    def test_wrong_values(self):
        self.check_each_raises(BadSwap("swap"), [value for value in NO_DEALS if value is not CUP], Kinds)
        kinds = Kinds(CUP + CUP)
        self.check_each_raises(BadDone("done"), NO_DONE, kinds.counts_of)
        self.check_raises(NoHand(4), kinds.counts_of, [0, 0, 4])
        self.check_raises(Twice(0), kinds.counts_of, [0, 0])
        wrong = [*NO_LISTS, [1], (1, 1, 1), [1, 3], [-1, 0], [True, 0], [1, None], ["1", "1"], (1.0, 1), []]
        for work in (kinds.first_with, kinds.sums_with, kinds.sets_with):
            self.check_each_raises(BadCounts("counts"), wrong, work)

    def test_counts(self):
        kinds = Kinds(MIXED)
        self.check_same((2, 1, 0, 1), kinds.counts_of(done=[6, 5, 4, 0]))
        self.check_same((0, 1, 2, 3), kinds.first_with([2, 1, 1, 0]))
        self.check_same((), kinds.first_with(counts=(0, 0, 0, 0)))
        self.check_same(sums(MIXED, [0, 2, 1]), kinds.sums_with(counts=[2, 1, 0, 0]))
        self.assertEqual(6, kinds.sets_with(counts=(2, 1, 0, 1)))

    def test_done_sets_with_equal_counts_have_equal_sums_and_are_so_many(self):
        rnd = random.Random(8)
        for _ in range(15):
            swap = random_swap(rnd, 2, rnd.randrange(7))
            kinds = Kinds(swap)
            for done in done_sets(swap):
                self.assertEqual(sums(swap, done), kinds.sums_with(kinds.counts_of(done)))
                self.assertEqual(kinds.counts_of(done), kinds.counts_of(kinds.first_with(kinds.counts_of(done))))
            many = Counter(kinds.counts_of(done) for done in done_sets(swap))
            self.assertEqual(dict(many), {counts: kinds.sets_with(counts) for counts in many})


if __name__ == "__main__":
    unittest.main()
