"""Whether papers about ranks, chains and the filling are right."""

from math import lcm

from lastgiver.chains import Chain
from lastgiver.checks import are_integers, is_integer, is_row
from lastgiver.even import Filled, check_fillable, filled, lane, lies_in
from lastgiver.matched import matches
from lastgiver.ratios import Ratio, is_ratio
from lastgiver.roads import Rank, off
from lastgiver.spans import whole_lines
from lastgiver.sums import along
from lastgiver.swaps import check_swap


def shows_rank(swap, value):
    """Whether any value is a Rank of so many hand-overs, told apart by its lines, which make up all off lines."""
    check_swap(swap)
    if type(value) is not Rank or not _is_well_formed(swap, value):
        return False
    rows, scales = whole_lines(off(swap), len(swap.strangers))
    pulls = [_whole_pull(pull, scales) for pull in value.pulls]
    for place, number in enumerate(value.kept):
        for other, pull in enumerate(pulls):
            if _by(rows[number], pull[0]) != (pull[1] if place == other else 0):
                return False
    return all([_is_made_up(row, pulls, [rows[number] for number in value.kept]) for row in rows])


def shows_enough(swap, value):
    """Whether any value is a Chain of a right Rank, a row, and weights that show it."""
    check_swap(swap)
    if type(value) is not Chain or not shows_rank(swap, value.rank) or not is_row(len(swap.hands), value.row):
        return False
    beginnings = list(range(len(swap.hands), value.rank.number - 1, -1))
    if not isinstance(value.weights, tuple) or len(value.weights) != len(beginnings):
        return False
    rows = whole_lines(off(swap), len(swap.strangers))[0]
    ordered = [rows[number] for number in value.row]
    return all([
        _are_weights(weights, ordered[:many], many - value.rank.number)
        for weights, many in zip(value.weights, beginnings)
    ])


def shows_filled(deal, value):
    """Whether any value is a Filled of a row within the lane, or the Outside or Halted that is told of the deal."""
    check_fillable(deal)
    if type(value) is Filled:
        if not is_row(len(deal.swap.hands), value.row):
            return False
        ends = lane(deal)
        return all([lies_in(ends, line[0]) for line in list(along(deal.swap, value.row))])
    right = filled(deal)
    return type(value) is type(right) and matches(value.parts, right.parts)


def _is_well_formed(swap, value):
    """Whether a Rank has a number, so many ascending numbers of hand-overs, and so many lines."""
    if not is_integer(value.number) or not are_integers(value.kept) or not isinstance(value.pulls, tuple):
        return False
    kept = [-1, *value.kept, len(swap.hands)]
    if not all([kept[place] < kept[place + 1] for place in range(len(kept) - 1)]):
        return False
    if not len(value.kept) == value.number == len(value.pulls):
        return False
    return all([_are_ratios(pull, len(swap.strangers)) for pull in value.pulls])


def _are_ratios(value, many):
    """Whether any value is a tuple of so many ratios."""
    return isinstance(value, tuple) and len(value) == many and all([is_ratio(item) for item in value])


def _whole_pull(pull, scales):
    """Integers for a line, so that off lines can be told in integers as well, and the number that is 1."""
    ratios = [Ratio.of(item).over(scale) for item, scale in zip(pull, scales)]
    one = 1
    for ratio in ratios:
        one = lcm(one, ratio.bottom)
    return [ratio.top * (one // ratio.bottom) for ratio in ratios], one


def _by(row, other):
    """A row by another one."""
    return sum([item * told for item, told in zip(row, other)])


def _is_made_up(row, pulls, kept_rows):
    """Whether a row is the sum of the kept ones, each times its line by this row."""
    one = 1
    for pull in pulls:
        one = lcm(one, pull[1])
    times = [_by(row, pull[0]) * (one // pull[1]) for pull in pulls]
    for place, item in enumerate(row):
        if sum([many * kept[place] for many, kept in zip(times, kept_rows)]) != one * item:
            return False
    return True


def _are_weights(value, rows, total):
    """Whether any value are weights of these rows, from 0 to 1, that add up to a total, and the rows with them to 0."""
    if not _are_ratios(value, len(rows)):
        return False
    ratios = [Ratio.of(item) for item in value]
    one = 1
    for ratio in ratios:
        one = lcm(one, ratio.bottom)
    tops = [ratio.top * (one // ratio.bottom) for ratio in ratios]
    if not all([0 <= top <= one for top in tops]) or sum(tops) != total * one:
        return False
    width = len(rows[0]) if len(rows) > 0 else 0
    return all([sum([top * row[place] for top, row in zip(tops, rows)]) == 0 for place in range(width)])
