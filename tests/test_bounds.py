"""Trusts and pledges."""

import unittest

from lastgiver.bounds import Bounds
from lastgiver.errors import BadBounds, BadNumber, BadText, Unlike
from lastgiver.ratios import Ratio

from support import CUP, NO_AMOUNTS, NO_LISTS, NO_NUMBERS, Case

NO_BOUNDS = [value for value in NO_AMOUNTS if value is not None]
NO_BOUNDS_LISTS = [*NO_LISTS, [], [1], [1] * 7, (1, -1), [1, True], (1, "wide"), [Ratio(-1, 2), 0], "11", [1.0, 2]]
NO_BOUNDS_VALUES = [*NO_NUMBERS, CUP, [[0, 0], [0, 0]], "0 0 , 0 0"]


class BoundsTest(Case):
    def test_attributes(self):
        bounds = Bounds([2, None], (0, Ratio(3, 2)))
        self.check_same([(Ratio(2), None), (Ratio(0), Ratio(3, 2)), 2], [bounds.trusts, bounds.pledges, len(bounds)])
        self.assertEqual(bounds, Bounds(pledges=[0, Ratio(3, 2)], trusts=(2, None)))
        self.assertEqual(6, len(Bounds([1] * 6, [None] * 6)))

    def test_what_is_passed_is_copied(self):
        trusts, pledges = [1, 2], [3, 4]
        bounds = Bounds(trusts, pledges)
        trusts.append(5)
        pledges[0] = 9
        self.assertEqual("1 3 , 2 4", str(bounds))
        self.assertEqual(([1, 2, 5], [9, 4]), (trusts, pledges))

    def test_wrong_values(self):
        self.check_each_raises(BadBounds("trusts"), NO_BOUNDS_LISTS, lambda value: Bounds(value, None))
        self.check_each_raises(BadBounds("pledges"), NO_BOUNDS_LISTS, lambda value: Bounds([1, 2, 3], value))
        self.check_raises(Unlike("pledges"), Bounds, [1, 2], [1, 2, 3])
        self.check_raises(Unlike("pledges"), Bounds, [None] * 6, [None] * 5)

    def test_alike_and_zero(self):
        self.assertEqual("2 wide , 2 wide , 2 wide", str(Bounds.alike(3, 2, None)))
        self.assertEqual("wide 1/2 , wide 1/2", str(Bounds.alike(many=2, trust=None, pledge=Ratio(1, 2))))
        self.assertEqual(["0 0 , 0 0", 6], [str(Bounds.zero(many=2)), len(Bounds.zero(6))])
        for value in [*NO_NUMBERS, 1, 7, 0, -2]:
            self.check_raises(BadNumber("many"), Bounds.alike, value, -1, -1)
            self.check_raises(BadNumber("many"), Bounds.zero, value)
        self.check_each_raises(BadBounds("trust"), NO_BOUNDS, lambda value: Bounds.alike(2, value, -1))
        self.check_each_raises(BadBounds("pledge"), NO_BOUNDS, lambda value: Bounds.alike(2, None, value))

    def test_exchanged(self):
        self.assertEqual("0 2 , 3/2 wide", str(Bounds.read("2 0 , wide 3/2").exchanged()))

    def test_with_trust_and_with_pledge(self):
        bounds = Bounds.read("1 2 , 3 4 , 5 6")
        self.assertEqual("1 2 , wide 4 , 5 6", str(bounds.with_trust(1, None)))
        self.assertEqual("1 2 , 3 4 , 1/2 6", str(bounds.with_trust(place=2, trust=Ratio(1, 2))))
        self.assertEqual("1 0 , 3 4 , 5 6", str(bounds.with_pledge(0, 0)))
        self.assertEqual("1 2 , 3 4 , 5 wide", str(bounds.with_pledge(place=2, pledge=None)))
        self.assertEqual("1 2 , 3 4 , 5 6", str(bounds))
        for value in [*NO_NUMBERS, -1, 3]:
            self.check_raises(BadNumber("place"), bounds.with_trust, value, -1)
            self.check_raises(BadNumber("place"), bounds.with_pledge, value, -1)
        self.check_each_raises(BadBounds("trust"), NO_BOUNDS, lambda value: bounds.with_trust(0, value))
        self.check_each_raises(BadBounds("pledge"), NO_BOUNDS, lambda value: bounds.with_pledge(0, value))

    def test_covers(self):
        for one, other, told in [
            ("1 1 , 1 1", "1 1 , 1 1", True), ("wide wide , wide wide", "9 9 , wide wide", True), ("1 1 , 1 1", "1 1 , 1 wide", False),
            ("1 1 , 1 1", "1 3/2 , 1 1", False), ("1 1 , 1 1", "0 1/2 , 0 0", True), ("2 1 , 1 1", "1 2 , 1 1", False),
            ("1 1 , 0 1", "1 1 , 1/9 1", False),
        ]:
            self.assertIs(told, Bounds.read(one).covers(Bounds.read(other)))
        self.assertIs(True, Bounds.zero(2).covers(other=Bounds.zero(2)))

    def test_the_greater_bounds(self):
        one, other = Bounds.read("1 2 , wide 0 , 1/2 3"), Bounds.read("2 1 , 5 wide , 1/3 3")
        self.assertEqual("2 2 , wide wide , 1/2 3", str(one | other))
        self.assertEqual(one | other, other | one)
        self.assertTrue((one | other).covers(one) and (one | other).covers(other))

    def test_wrong_other_bounds(self):
        bounds = Bounds.zero(2)
        for work in (bounds.covers, bounds.__or__):
            self.check_each_raises(BadBounds("other"), NO_BOUNDS_VALUES, work)
            self.check_raises(Unlike("other"), work, Bounds.zero(3))

    def test_equality(self):
        texts = ["1 2 , 3 wide , 0 0", "1 2 , 3 4", "2 2 , 3 wide", "1 2 , wide wide", "1 2 , 3 0"]
        self.check_equality(lambda: Bounds([1, 3], [2, None]), [Bounds.read(text) for text in texts])

    def test_texts(self):
        for text in ["2 0 , wide 3/2", "0 0 , 0 0 , 0 0 , 0 0 , 0 0 , wide wide", "9/2 " + "9" * 60 + " , wide wide"]:
            self.check_read(Bounds, text)

    def test_texts_that_cannot_be_read(self):
        most = " , ".join(["1 2"] * 6)
        for text, word in [
            ("", 0), ("1", 1), ("1 ", 1), ("1 2", 2), ("1 2 ", 2), ("1 2 3", 2), ("1 2 ,", 3), ("1 2 , ", 3), ("1 2 , 1", 4),
            ("1 2 , 1 x", 4), ("2 0 , -1 0", 3), ("Wide 0 , 1 1", 0), ("1 wide, 1 1", 1), ("1 2 ; 1 1", 2), ("1 2 , 3 4 ", 5),
            ("1 2 , 3 4 5", 5), ("1 2 , 3 4 ,", 6), (", 1 2", 0), ("1 , 2", 1), ("1 None , 1 1", 1), ("1 " + "9" * 61 + " , 1 1", 1),
            ("1 2 , 3 4/2", 4), ("1 2  , 3 4", 2), (most + " ,", 17), (most + " , 1 2", 17), (most + " 1", 17), (most + " ", 17),
        ]:
            self.check_raises(BadText(0, word), Bounds.read, text)
        for value in [None, 3, True, b"1 2 , 3 4", ["1 2 , 3 4"], Bounds.zero(2)]:
            self.check_raises(BadText(0, 0), Bounds.read, value)


if __name__ == "__main__":
    unittest.main()
