"""Chains: weights that show a row close to the road."""

from lastgiver.errors import TooMany
from lastgiver.papers import Paper, fixed
from lastgiver.ratios import Ratio, least_of
from lastgiver.roads import ranked
from lastgiver.spans import Span, whole_lines
from lastgiver.sums import rest
from lastgiver.swaps import check_swap
from lastgiver.turned import portion

MOST_HANDS = 20


class Chain(Paper):
    """The Rank of a swap, a row, and weights for its beginnings, from the longest down to that of the rank."""

    def __init__(self, rank, row, weights):
        self.word = "chain"
        self.parts = fixed((rank, row, weights))
        self.rank = self.parts[0]
        self.row = self.parts[1]
        self.weights = self.parts[2]


def enough(swap):
    """A Chain of the swap."""
    check_swap(swap)
    _check_size(len(swap.hands))
    found = ranked(swap)
    told = _weights_down(swap, found.number)
    row = _row_of(told)
    return Chain(found, row, [[weights[number] for number in row[:len(weights)]] for weights in told])


def finish(swap, done):
    """The row of a Chain of what is left behind a done set, in the numbers of the swap."""
    left = rest(swap, done)
    _check_size(len(left))
    return tuple([left[number] for number in enough(portion(swap, left)).row])


def _check_size(many):
    """Raise TooMany for more hand-overs than a chain is made for."""
    if many > MOST_HANDS:
        raise TooMany("hands", MOST_HANDS)


def _weights_down(swap, number):
    """The weights, dicts by hand-overs, first of all of these, then of one less each time, down to the rank.

    Each time the weights are made smaller so that their sum is as it has to be for one less; then they
    are moved, which changes neither the sums of their lines nor of themselves, until one is 0.
    """
    rows = _rows_of(swap)
    many = len(rows)
    weights = {hand: Ratio(many - number, many) for hand in range(many)}
    told = [weights]
    group = []
    while len(weights) > number:
        smaller = Ratio(len(weights) - 1 - number, len(weights) - number)
        weights = {hand: weight * smaller for hand, weight in weights.items()}
        weights, group = _moved_to_zero(rows, weights, group)
        out = max([hand for hand in weights if weights[hand].sign == 0])
        weights = {hand: weight for hand, weight in weights.items() if hand != out}
        told.append(weights)
    return told


def _row_of(told):
    """The row of which each hand-over is the last one among those that have a weight together with it."""
    row = sorted(list(told[-1]))
    for place in reversed(range(len(told) - 1)):
        row = row + [hand for hand in told[place] if hand not in told[place + 1]]
    return row


def _rows_of(swap):
    """For each hand-over its effect, and 1, in integers.

    With weights that have one sum, lines add up to the same just where their off lines do.
    """
    effects = [[hand.effect(name) for name in swap.strangers] for hand in swap.hands]
    return [[*row, 1] for row in whole_lines(effects, len(swap.strangers))[0]]


def _moved_to_zero(rows, weights, group):
    """The weights moved until one is 0, and the group.

    The group are hand-overs of weights between 0 and 1 whose rows are no sums of multiples of one another.
    So their weights follow from the others, which are never moved, and all ratios stay short.
    """
    group = _between(weights, group)
    while all([weight.sign > 0 for weight in weights.values()]):
        fresh = min([hand for hand in _between(weights, weights) if hand not in group])
        span = Span(len(rows[fresh]))
        for hand in group:
            span.take(rows[hand])
        multiples = span.take(rows[fresh])
        group = [*group, fresh]
        if multiples is not None:
            weights = _moved(weights, group, multiples)
            group = _between(weights, group)
    return weights, group


def _between(weights, hands):
    """Those of the hand-overs whose weights are neither 0 nor 1."""
    return [hand for hand in hands if weights[hand].sign > 0 and weights[hand].is_below(1)]


def _moved(weights, group, multiples):
    """The weights of the group moved by these multiples, or against them, until one is 0, or else 1."""
    moved = weights
    for changes in (multiples, [-change for change in multiples]):
        moved = _moved_along(weights, group, changes)
        if any([weight.sign == 0 for weight in moved.values()]):
            return moved
    return moved


def _moved_along(weights, group, changes):
    """The weights of the group moved by these changes, as far as they stay from 0 to 1."""
    ends = []
    for hand, change in zip(group, changes):
        if change != 0:
            far = weights[hand] if change < 0 else Ratio(1) - weights[hand]
            ends.append(far.over(abs(change)))
    step = least_of(ends)
    moved = {hand: weights[hand] + step * change for hand, change in zip(group, changes)}
    return {hand: moved[hand] if hand in moved else weight for hand, weight in weights.items()}
