"""Sums of multiples of lines, worked out in integers."""

from math import gcd, lcm

from lastgiver.ratios import Ratio


class Span:
    """Rows of integers, all of one width, none of which is a sum of multiples of the others."""

    def __init__(self, width):
        self.width = width
        # For each row a place at which those behind it are made 0 by it.
        self.pivots = []
        self._rows = []

    def take(self, row):
        """Take one row more in, if it is no sum of multiples of the others; then None is returned.

        Otherwise integers are, not all 0, with which the others and this row, the last, add up to 0.
        """
        # Behind its width each row tells of which multiples it is made.
        left = [*row, *[0] * len(self.pivots), 1]
        for pivot, other in zip(self.pivots, self._rows):
            if left[pivot] != 0:
                padded = [*other, *[0] * (len(left) - len(other))]
                left = _without(left, padded, pivot)
        places = [place for place in range(self.width) if left[place] != 0]
        if len(places) == 0:
            return left[self.width:]
        self.pivots.append(places[0])
        self._rows.append(left)
        return None


def whole_lines(lines, width):
    """Lines of ratios as rows of integers, and the numbers by which each place of all was multiplied."""
    scales = []
    for place in range(width):
        scale = 1
        for told in lines:
            scale = lcm(scale, told[place].bottom)
        scales.append(scale)
    rows = [[told.top * (scale // told.bottom) for told, scale in zip(line, scales)] for line in lines]
    return rows, scales


def inverse_of(rows):
    """The inverse of a square of integers, as rows of Ratios; no row is a sum of multiples of the others."""
    many = len(rows)
    wide = [[*row, *[1 if place == other else 0 for other in range(many)]] for place, row in enumerate(rows)]
    for place in range(many):
        pivot = min([other for other in range(place, many) if wide[other][place] != 0])
        wide[place], wide[pivot] = wide[pivot], wide[place]
        wide = [row if other == place else _without(row, wide[place], place) for other, row in enumerate(wide)]
    return [[Ratio(item, row[place]) for item in row[many:]] for place, row in enumerate(wide)]


def sum_of_greatest(ratios, many):
    """The sum of the greatest of some ratios, so many of them, of all if they are fewer."""
    scale = 1
    for ratio in ratios:
        scale = lcm(scale, ratio.bottom)
    tops = sorted([ratio.top * (scale // ratio.bottom) for ratio in ratios], reverse=True)
    return Ratio(sum(tops[:many]), scale)


def _without(row, other, pivot):
    """A multiple of a row, less one of another one, so that it is 0 at a place where the other one is not."""
    by, times = other[pivot], row[pivot]
    left = [by * item - times * told for item, told in zip(row, other)]
    shared = 0
    for item in left:
        shared = gcd(shared, item)
    return left if shared < 2 else [item // shared for item in left]
