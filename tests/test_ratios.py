"""Ratios: their lowest terms, how they are reckoned with, and their texts."""

import random
import unittest
from fractions import Fraction

from lastgiver.errors import BadRatio, BadText
from lastgiver.ratios import Ratio, added, greatest_of, is_ratio, least_of

from support import NO_NUMBERS, NO_RATIOS, Case, as_fraction

LISTS = [*NO_RATIOS[:-3], 3, Ratio(1), "12", [1, None], (True,), [Ratio(1), "1"], [1.0], {1: 2}]


class RatiosTest(Case):
    def test_lowest_terms(self):
        for top, bottom, text in [(4, -6, "-2/3"), (-4, -6, "2/3"), (0, -5, "0"), (6, 3, "2"), (7, 1, "7"), (-6, 4, "-3/2")]:
            ratio = Ratio(top, bottom)
            self.assertEqual(text, str(ratio))
            self.assertEqual(text, repr(ratio))
        self.assertEqual((0, 1), (Ratio(0, -9).top, Ratio(0, -9).bottom))
        self.assertEqual((-2, 3), (Ratio(4, -6).top, Ratio(4, -6).bottom))
        self.assertEqual(Ratio(1, 2), Ratio(bottom=2, top=1))
        self.assertEqual((5, 1), (Ratio(5).top, Ratio(5).bottom))

    def test_wrong_top_and_bottom(self):
        self.check_each_raises(BadRatio("top"), NO_NUMBERS, Ratio)
        self.check_each_raises(BadRatio("bottom"), [*NO_NUMBERS, 0], lambda value: Ratio(1, value))
        self.check_raises(BadRatio("top"), Ratio, None, 0)

    def test_sign_and_whole(self):
        self.assertEqual([-1, 0, 1], [Ratio(-1, 2).sign, Ratio(0).sign, Ratio(1, 2).sign])
        self.assertEqual([True, True, False], [Ratio(4, 2).is_whole, Ratio(0).is_whole, Ratio(1, 2).is_whole])
        self.assertEqual([True, True, False], [bool(Ratio(-1)), bool(Ratio(1, 9)), bool(Ratio(0, 3))])

    def test_reckoning(self):
        rnd = random.Random(3)
        for _ in range(200):
            one = Ratio(rnd.randrange(-9, 10), rnd.choice([-7, -3, 1, 2, 4, 6]))
            other = rnd.choice([Ratio(rnd.randrange(-9, 10), rnd.randrange(1, 9)), rnd.randrange(-9, 10)])
            left, right = as_fraction(one), as_fraction(other)
            for found, wanted in [(one + other, left + right), (one - other, left - right), (one * other, left * right)]:
                self.assertIs(Ratio, type(found))
                self.assertEqual(wanted, as_fraction(found))
            if right != 0:
                self.assertEqual(left / right, as_fraction(one.over(other)))
            self.assertEqual((left > right) - (left < right), one.compared(other))
            self.assertIs(left < right, one.is_below(other))
            self.assertEqual([-left, abs(left)], [as_fraction(-one), as_fraction(abs(one))])

    def test_reckoning_with_wrong_values(self):
        half = Ratio(1, 2)
        for work in (half.__add__, half.__sub__, half.__mul__, half.over, half.compared, half.is_below):
            self.check_each_raises(BadRatio("other"), NO_RATIOS, work)
        for zero in (0, Ratio(0)):
            self.check_raises(BadRatio("zero"), half.over, zero)
        self.assertEqual(Ratio(1), half.over(other=half))
        self.assertEqual([0, False], [half.compared(other=half), half.is_below(other=half)])

    def test_no_operators_with_a_ratio_at_the_right_of_an_integer(self):
        for work in (lambda: 1 + Ratio(1), lambda: 1 - Ratio(1), lambda: 2 * Ratio(1), lambda: Ratio(1) < Ratio(2)):
            self.assertRaises(TypeError, work)

    def test_equality(self):
        self.assertTrue(Ratio(2) == 2 and 2 == Ratio(2) and Ratio(4, 8) == Ratio(1, 2) and Ratio(1, 2) != Ratio(1, 3))
        for value in [True, False, None, 1.0, 0.0, "1", "0", [], Fraction(1), Fraction(0)]:
            self.assertFalse(Ratio(1) == value or Ratio(0) == value, value)
        self.assertFalse(True == Ratio(1) or Ratio(1, 2) == 0 or Ratio(3, 2) == 1)

    def test_nothing_is_changed(self):
        one, other = Ratio(1, 2), Ratio(1, 3)
        added([one, other])
        found = [one + other, one - other, one * other, -one, abs(one), one.over(other)]
        self.assertEqual(6, len(found))
        self.assertEqual(["1/2", "1/3"], [str(one), str(other)])

    def test_read(self):
        for text in ["0", "3", "-3", "-3/2", "1/2", "10/9", "9" * 60, "-" + "9" * 60, "1/" + "7" * 60, "9" * 60 + "/1" + "0" * 59]:
            self.check_read(Ratio, text)

    def test_read_what_is_no_ratio(self):
        texts = [
            "", "-", "/", "1/", "/2", "4/2", "0/5", "-0", "+1", "3/1", "1/-2", "01", "1/02", "--1", "1/2/3", "1.5", "x",
            "1/0", "-0/3", "\u0661", "1\n", "\t1", "1_0", "9" * 61, "1/" + "7" * 61, "2/4", "6/4", "0x1", "wide",
        ]
        self.check_each_raises(BadText(0, 0), [*texts, None, 1, 1.5, b"1", ["1"], Ratio(1)], Ratio.read)
        for text, word in [("1 ", 1), ("1 2", 1), ("1  ", 1), (" 1", 0), ("x 1", 0), ("1 2 3", 1)]:
            self.check_raises(BadText(0, word), Ratio.read, text)

    def test_of_and_is_ratio(self):
        self.check_same([Ratio(2), Ratio(1, 2)], [Ratio.of(2), Ratio.of(value=Ratio(1, 2))])
        self.check_each_raises(BadRatio("value"), NO_RATIOS, Ratio.of)
        self.assertEqual([True, True, True], [is_ratio(value=2), is_ratio(-2), is_ratio(Ratio(1, 2))])
        self.assertEqual([], [value for value in NO_RATIOS if is_ratio(value) is not False])

    def test_added_least_greatest(self):
        self.check_same(Ratio(0), added([]))
        self.check_same(Ratio(0), added(ratios=()))
        self.check_same(Ratio(3, 2), added((1, Ratio(1, 2))))
        self.check_same([Ratio(-1, 2), Ratio(1)], [least_of([1, Ratio(-1, 2), 0]), greatest_of((Ratio(-1, 2), 1, 0))])
        self.check_same([Ratio(2), Ratio(2)], [least_of(ratios=[2]), greatest_of(ratios=(2,))])
        for work in (added, least_of, greatest_of):
            self.check_each_raises(BadRatio("ratios"), LISTS, work)
        for work in (least_of, greatest_of):
            self.check_each_raises(BadRatio("ratios"), [[], ()], work)


if __name__ == "__main__":
    unittest.main()
