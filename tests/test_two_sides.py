"""Two strangers who each give things of one kind."""

import itertools
import random
import unittest

from lastgiver.bounds import Bounds
from lastgiver.deals import Deal
from lastgiver.errors import BadBounds, BadHandOver, BadNumber, NoWay, TooMany, Unlike
from lastgiver.kind_rows import find_by_kinds
from lastgiver.ratios import Ratio
from lastgiver.swaps import HandOver, Swap
from lastgiver.two_sides import Gap, Sides, two_sides

from support import CUP, NO_NUMBERS, Case, plain_allowed, random_bound, random_ratio

ONE, OTHER = CUP.hands
WIDE = Bounds.alike(2, None, None)
NO_HAND_OVERS = [*NO_NUMBERS, CUP, "ann bob 2 3", ["ann", "bob", 2, 3]]


def as_deal(one, many, other, more, bounds):
    """The deal of two sides."""
    return Deal(Swap((one.giver, one.taker), [one] * many + [other] * more), bounds)


def allows(deal, many, counts):
    """Whether counts of two sides are allowed."""
    return plain_allowed(deal, [*range(counts[0]), *range(many, many + counts[1])])


def first_tuple(deal, many, more):
    """The first good tuple by trying all."""
    for ones in sorted(set(itertools.permutations([0] * many + [1] * more))):
        if all(allows(deal, many, (ones[:k].count(0), ones[:k].count(1))) for k in range(many + more + 1)):
            return ones
    return None


def least_gap(deal, many, more):
    """The least gap by trying all."""
    for place in range(many):
        if not any(allows(deal, many, (place, j)) and allows(deal, many, (place + 1, j)) for j in range(more + 1)):
            return place
    return None


def random_sides(rnd, most):
    """What is told of two sides."""
    one = HandOver("ann", "bob", random_ratio(rnd), random_ratio(rnd))
    other = HandOver("bob", "ann", random_ratio(rnd), random_ratio(rnd))
    bounds = Bounds([random_bound(rnd), random_bound(rnd)], [random_bound(rnd), random_bound(rnd)])
    return one, rnd.randrange(most), other, rnd.randrange(most), bounds


class TwoSidesTest(Case):
    def test_wrong_values(self):
        self.check_each_raises(BadHandOver("one"), NO_HAND_OVERS, lambda value: two_sides(value, -1, None, -1, None))
        for value in [*NO_NUMBERS, -1]:
            self.check_raises(BadNumber("many"), two_sides, ONE, value, None, -1, None)
            self.check_raises(BadNumber("more"), two_sides, ONE, 0, OTHER, value, None)
        self.check_each_raises(BadHandOver("other"), NO_HAND_OVERS, lambda value: two_sides(ONE, 1, value, -1, None))
        self.check_each_raises(BadBounds("bounds"), [*NO_NUMBERS, CUP, ((0, 0), (0, 0))], lambda value: two_sides(ONE, 1, ONE, 1, value))
        for other in (ONE, HandOver("bob", "cay", 1, 1), HandOver("cay", "ann", 1, 1)):
            self.check_raises(Unlike("strangers"), two_sides, ONE, 501, other, 501, Bounds.zero(3))
        self.check_raises(Unlike("bounds"), two_sides, ONE, 501, OTHER, 501, Bounds.zero(3))

    def test_500_things_and_501(self):
        lossy = HandOver("ann", "bob", 9, 0)
        for many, more in [(501, 0), (0, 501), (501, 501), (10 ** 40, 1)]:
            self.check_raises(TooMany("hands", 500), two_sides, lossy, many, OTHER, more, Bounds.zero(2))
        there, back = HandOver("ann", "bob", 2, 2), HandOver("bob", "ann", 2, 2)
        self.assertTrue((0, 1) * 500 == two_sides(there, 500, back, 500, Bounds([2, 0], [0, 2])).row)
        self.assertTrue((0,) * 500 + (1,) * 500 == two_sides(ONE, 500, OTHER, 500, WIDE).row)

    def test_counts_that_are_not_allowed(self):
        worse = HandOver("ann", "bob", 5, 1)
        self.check_raises(NoWay((0, 0), "ann"), two_sides, worse, 1, OTHER, 1, Bounds.zero(2))
        self.check_raises(NoWay((2, 1), "ann"), two_sides, worse, 2, OTHER, 1, Bounds([6, 0], [9, 9]))
        self.check_raises(NoWay((0, 0), "bob"), two_sides, HandOver("ann", "bob", 0, 1), 1, HandOver("bob", "ann", 3, 0), 1, Bounds.zero(2))
        self.check_raises(NoWay((1, 1), "bob"), two_sides, HandOver("ann", "bob", 0, 1), 1, HandOver("bob", "ann", 3, 0), 1, WIDE.with_trust(1, 0))
        self.check_raises(NoWay((0, 0), "bob"), two_sides, HandOver("bob", "ann", 3, 0), 1, HandOver("ann", "bob", 0, 1), 1, Bounds.zero(2))

    def test_no_things_of_a_side(self):
        self.assertEqual(Sides(()), two_sides(ONE, 0, OTHER, 0, Bounds.zero(2)))
        self.assertEqual(Sides([1, 1]), two_sides(one=ONE, many=0, other=OTHER, more=2, bounds=WIDE))
        self.assertEqual(Sides([0]), two_sides(ONE, 1, OTHER, 0, WIDE))

    def test_costs_and_gains_of_0(self):
        gift, back = HandOver("a", "b", 0, 0), HandOver("b", "a", 0, 0)
        self.assertEqual(Sides([0, 0, 1]), two_sides(gift, 2, back, 1, Bounds.zero(2)))
        self.assertEqual(Sides([1, 0, 1]), two_sides(HandOver("a", "b", 1, 1), 1, HandOver("b", "a", 0, 1), 2, Bounds([0, None], [None, None])))

    def test_one_giver_has_the_first_place(self):
        swapped = two_sides(OTHER, 1, ONE, 1, Bounds([2, 0], [0, 2]))
        self.assertEqual(Sides([0, 1]), swapped)
        self.assertEqual(Sides([1, 0]), two_sides(OTHER, 1, ONE, 1, Bounds([0, 2], [2, 0])))

    def test_by_trying_all(self):
        rnd = random.Random(81)
        kinds = set()
        for _ in range(400):
            told = random_sides(rnd, 5)
            one, many, other, more, bounds = told
            deal = as_deal(*told)
            try:
                found = two_sides(*told)
            except NoWay as error:
                bad = [counts for counts in ((0, 0), (many, more)) if not allows(deal, many, counts)]
                numbers = [*range(bad[0][0]), *range(many, many + bad[0][1])]
                self.assertEqual((bad[0], deal.objections(numbers)[0].name), (error.done, error.name))
                continue
            kinds.add(type(found))
            if found:
                self.check_same(first_tuple(deal, many, more), found.row)
                self.assertIs(Sides, type(found))
            else:
                self.assertIsNone(first_tuple(deal, many, more))
                self.check_same(least_gap(deal, many, more), found.place)
                self.assertIs(Gap, type(found))
        self.assertEqual({Sides, Gap}, kinds)

    def test_two_sides_as_by_kinds(self):
        rnd = random.Random(82)
        for _ in range(150):
            told = random_sides(rnd, 12)
            try:
                found = two_sides(*told)
            except NoWay:
                continue
            by_kinds = find_by_kinds(as_deal(*told))
            self.assertEqual(bool(by_kinds), bool(found))
            if found:
                self.assertEqual(tuple(0 if number < told[1] else 1 for number in by_kinds.row), found.row)

    def test_each_stretch_is_without_holes_and_does_not_fall(self):
        rnd = random.Random(83)
        for _ in range(100):
            told = random_sides(rnd, 6)
            deal = as_deal(*told)
            lists = [[j for j in range(told[3] + 1) if allows(deal, told[1], (i, j))] for i in range(told[1] + 1)]
            lists = [row for row in lists if row]
            for row in lists:
                self.assertEqual(list(range(row[0], row[-1] + 1)), row)
            self.assertEqual(sorted(row[0] for row in lists), [row[0] for row in lists])
            self.assertEqual(sorted(row[-1] for row in lists), [row[-1] for row in lists])

    def test_ratios_of_30_digits(self):
        large = Ratio(10 ** 29 + 9, 10 ** 29 + 7)
        one, other = HandOver("a", "b", large, large), HandOver("b", "a", large, large)
        self.assertTrue((0, 1) * 500 == two_sides(one, 500, other, 500, Bounds([large, 0], [0, large])).row)
        self.assertEqual(Gap(0), two_sides(one, 500, other, 500, Bounds.alike(2, Ratio(1, 10 ** 29), large)))


if __name__ == "__main__":
    unittest.main()
