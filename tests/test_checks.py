"""Integers and names among any values."""

import unittest

from lastgiver.checks import is_integer, is_name, is_within
from lastgiver.ratios import Ratio

from support import NO_NAMES, NO_NUMBERS, Case


class ChecksTest(Case):
    def test_integers(self):
        for value in [0, 1, -1, 10 ** 80, -10 ** 80]:
            self.assertIs(True, is_integer(value))
        for value in NO_NUMBERS:
            self.assertIs(False, is_integer(value), value)
        self.assertIs(True, is_integer(value=3))

    def test_integers_within_bounds(self):
        self.assertEqual([False, True, True, False], [is_within(value, 2, 3) for value in (1, 2, 3, 4)])
        self.assertEqual([True, True, False], [is_within(value, None, 3) for value in (-10 ** 70, 3, 4)])
        self.assertEqual([False, True, True], [is_within(value, 2, None) for value in (1, 2, 10 ** 70)])
        self.assertEqual([True, True], [is_within(value, None, None) for value in (-10 ** 70, 10 ** 70)])
        self.assertIs(True, is_within(value=0, least=0, most=0))
        self.assertIs(False, is_within(0, 1, 0))
        for value in NO_NUMBERS:
            self.assertIs(False, is_within(value, 0, 1), value)
            self.assertIs(False, is_within(value, None, None), value)

    def test_names(self):
        for value in ["a", "z", "ann", "a1", "b2b", "abcdefghijkl", "a23456789012", "x0"]:
            self.assertIs(True, is_name(value), value)
        for value in NO_NAMES:
            self.assertIs(False, is_name(value), value)
        self.assertIs(False, is_name(Ratio(1)))
        self.assertIs(True, is_name(value="ann"))


if __name__ == "__main__":
    unittest.main()
