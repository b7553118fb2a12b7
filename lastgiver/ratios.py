"""Exact fractions in lowest terms."""

from math import gcd

from lastgiver.checks import check_end, integer_in, is_integer, is_listed, word_at, words_of
from lastgiver.errors import BadRatio, BadText


class Ratio:
    """Top over bottom, in lowest terms; the bottom is above 0."""

    def __init__(self, top, bottom=1):
        if not is_integer(top):
            raise BadRatio("top")
        if not is_integer(bottom) or bottom == 0:
            raise BadRatio("bottom")
        shared = gcd(top, bottom) if bottom > 0 else -gcd(top, bottom)
        self.top = top // shared
        self.bottom = bottom // shared

    @property
    def sign(self):
        """-1, 0 or 1."""
        if self.top == 0:
            return 0
        return 1 if self.top > 0 else -1

    @property
    def is_whole(self):
        """Whether the bottom is 1."""
        return self.bottom == 1

    def __add__(self, other):
        right = _right(other)
        return Ratio(self.top * right.bottom + right.top * self.bottom, self.bottom * right.bottom)

    def __sub__(self, other):
        right = _right(other)
        return Ratio(self.top * right.bottom - right.top * self.bottom, self.bottom * right.bottom)

    def __mul__(self, other):
        right = _right(other)
        return Ratio(self.top * right.top, self.bottom * right.bottom)

    def __neg__(self):
        return Ratio(-self.top, self.bottom)

    def __abs__(self):
        return Ratio(abs(self.top), self.bottom)

    def __bool__(self):
        return bool(self.top)

    def __eq__(self, other):
        if isinstance(other, Ratio):
            return self.top == other.top and self.bottom == other.bottom
        return is_integer(other) and self.bottom == 1 and self.top == other

    def __str__(self):
        if self.bottom == 1:
            return str(self.top)
        return f"{self.top}/{self.bottom}"

    def __repr__(self):
        return str(self)

    def over(self, other):
        """This ratio divided by the other one."""
        right = _right(other)
        if right.top == 0:
            raise BadRatio("zero")
        return Ratio(self.top * right.bottom, self.bottom * right.top)

    def compared(self, other):
        """-1, 0 or 1, as this ratio is less than the other one, equal to it or greater."""
        right = _right(other)
        mine, others = self.top * right.bottom, right.top * self.bottom
        if mine == others:
            return 0
        return -1 if mine < others else 1

    def is_below(self, other):
        """Whether this ratio is less than the other one."""
        return self.compared(other) < 0

    @classmethod
    def read(cls, text):
        """The Ratio that the text tells."""
        words = words_of(text)
        ratio = ratio_in(words[0])
        if ratio is None:
            raise BadText(0, 0)
        check_end(words, 1)
        return ratio

    @staticmethod
    def of(value):
        """The Ratio of a ratio."""
        if not is_ratio(value):
            raise BadRatio("value")
        return _right(value)


def _right(other):
    """The Ratio at the right of an operator."""
    if isinstance(other, Ratio):
        return other
    if not is_integer(other):
        raise BadRatio("other")
    return Ratio(other)


def is_ratio(value):
    """Whether any value is a Ratio or an integer."""
    return isinstance(value, Ratio) or is_integer(value)


def is_amount(value):
    """Whether any value is a ratio from 0 on."""
    return is_ratio(value) and Ratio.of(value).sign >= 0


def added(ratios):
    """The sum of a list or tuple of ratios, 0 if there are none."""
    if not _are_ratios(ratios):
        raise BadRatio("ratios")
    total = Ratio(0)
    for ratio in ratios:
        total = total + ratio
    return total


def least_of(ratios):
    """The least of some ratios, one at least."""
    return -greatest_of([-Ratio.of(ratio) for ratio in _some_ratios(ratios)])


def greatest_of(ratios):
    """The greatest of some ratios, one at least."""
    told = _some_ratios(ratios)
    greatest = Ratio.of(told[0])
    for ratio in told:
        if greatest.is_below(ratio):
            greatest = Ratio.of(ratio)
    return greatest


def _are_ratios(value):
    """Whether any value is a list or tuple of ratios."""
    return is_listed(value) and all([is_ratio(item) for item in value])


def _some_ratios(ratios):
    """These ratios; BadRatio for what is no list or tuple of one or more."""
    if not _are_ratios(ratios) or len(ratios) == 0:
        raise BadRatio("ratios")
    return ratios


def ratio_in(word):
    """The Ratio that the word tells, or None."""
    if "/" not in word:
        whole = integer_in(word)
        return None if whole is None else Ratio(whole)
    above, _, below = word.partition("/")
    top = integer_in(above)
    bottom = integer_in(below)
    if top is None or bottom is None or bottom < 2 or gcd(top, bottom) != 1:
        return None
    return Ratio(top, bottom)


def amount_at(words, at):
    """The ratio from 0 on that the word at this place tells."""
    amount = ratio_in(word_at(words, at))
    if amount is None or amount.sign < 0:
        raise BadText(0, at)
    return amount
