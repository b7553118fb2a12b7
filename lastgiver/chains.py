"""Chains: weights that show a row close to the road."""

from math import gcd

from lastgiver.errors import TooMany
from lastgiver.papers import Paper, fixed
from lastgiver.ratios import Ratio
from lastgiver.roads import ranked
from lastgiver.spans import Span, whole_lines
from lastgiver.sums import rest
from lastgiver.swaps import check_swap
from lastgiver.turned import portion

MOST_HANDS = 20


class Chain(Paper):
    """The Rank of a swap, a row, and weights for its beginnings, from the longest down to that of the rank."""

    def __init__(self, rank, row, weights):
        self.word = "chain"
        self.parts = fixed((rank, row, weights))
        self.rank = self.parts[0]
        self.row = self.parts[1]
        self.weights = self.parts[2]


class Weights:
    """Weights of hand-overs, told in parts of 1; and a group of them that is moved.

    The group are hand-overs of weights between 0 and 1 whose rows are no sums of multiples of one another.
    So their weights follow from the others, which are never moved, and all numbers stay short.
    """

    def __init__(self, shares, parts):
        self.shares = shares
        self.parts = parts
        self.group = []

    def as_ratios(self):
        """A dict of the weights as Ratios."""
        return {hand: Ratio(weight, self.parts) for hand, weight in self.shares.items()}

    def make_smaller(self, top, bottom):
        """All weights times a ratio from 0 on, below 1."""
        self._keep({hand: weight * top for hand, weight in self.shares.items()}, self.parts * bottom)

    def leave_out_zero(self):
        """Leave the last hand-over out whose weight is 0."""
        out = max([hand for hand, weight in self.shares.items() if weight == 0])
        self._keep({hand: weight for hand, weight in self.shares.items() if hand != out}, self.parts)

    def move_to_zero(self, rows):
        """Move the weights of the group, and take others into it, until one is 0."""
        while all([weight > 0 for weight in self.shares.values()]):
            fresh = min([hand for hand in self._between(list(self.shares)) if hand not in self.group])
            span = Span(len(rows[fresh]))
            for hand in self.group:
                span.take(rows[hand])
            multiples = span.take(rows[fresh])
            self.group = [*self.group, fresh]
            if multiples is not None:
                self._move(multiples)

    def _move(self, multiples):
        """Move the group by these multiples, or against them, until one is 0, or else 1."""
        changes = multiples if self._comes_to_zero(multiples) else [-change for change in multiples]
        far, by = self._way_along(changes)
        moved = {hand: weight * by for hand, weight in self.shares.items()}
        for hand, change in zip(self.group, changes):
            moved[hand] = moved[hand] + far * change
        self._keep(moved, self.parts * by)

    def _comes_to_zero(self, changes):
        """Whether one weight of the group is 0 when they are moved by these changes as far as can be."""
        far, by = self._way_along(changes)
        return any([self.shares[hand] * by + far * change == 0 for hand, change in zip(self.group, changes)])

    def _way_along(self, changes):
        """How often these changes can be made so that all weights stay from 0 to 1, as top and bottom."""
        least = None
        for hand, change in zip(self.group, changes):
            if change != 0:
                far = self.shares[hand] if change < 0 else self.parts - self.shares[hand]
                if least is None or far * least[1] < least[0] * abs(change):
                    least = (far, abs(change))
        return least

    def _between(self, hands):
        """Those of the hand-overs whose weights are neither 0 nor 1."""
        return [hand for hand in hands if 0 < self.shares[hand] < self.parts]

    def _keep(self, told, parts):
        """Keep these weights, in as few parts of 1 as can be, and of the group those that are between 0 and 1."""
        shared = parts
        for weight in told.values():
            shared = gcd(shared, weight)
        self.shares = {hand: weight // shared for hand, weight in told.items()}
        self.parts = parts // shared
        self.group = self._between([hand for hand in self.group if hand in told])


def enough(swap):
    """A Chain of the swap."""
    check_swap(swap)
    _check_size(len(swap.hands))
    found = ranked(swap)
    told = _weights_down(swap, found.number)
    row = _row_of(told)
    return Chain(found, row, [[weights[number] for number in row[:len(weights)]] for weights in told])


def finish(swap, done):
    """The row of a Chain of what is left behind a done set, in the numbers of the swap."""
    left = rest(swap, done)
    _check_size(len(left))
    return tuple([left[number] for number in enough(portion(swap, left)).row])


def _check_size(many):
    """Raise TooMany for more hand-overs than a chain is made for."""
    if many > MOST_HANDS:
        raise TooMany("hands", MOST_HANDS)


def _weights_down(swap, number):
    """The weights, dicts by hand-overs, first of all of these, then of one less each time, down to the rank.

    Each time the weights are made smaller so that their sum is as it has to be for one less; then they
    are moved, which changes neither the sums of their lines nor of themselves, until one is 0.
    """
    rows = _rows_of(swap)
    many = len(rows)
    weights = Weights({hand: many - number for hand in range(many)}, max(1, many))
    told = [weights.as_ratios()]
    while len(told) <= many - number:
        left = many - len(told)
        weights.make_smaller(left - number, left + 1 - number)
        weights.move_to_zero(rows)
        weights.leave_out_zero()
        told.append(weights.as_ratios())
    return told


def _row_of(told):
    """The row of which each hand-over is the last one among those that have a weight together with it."""
    row = sorted(list(told[-1]))
    for place in reversed(range(len(told) - 1)):
        row = row + [hand for hand in told[place] if hand not in told[place + 1]]
    return row


def _rows_of(swap):
    """For each hand-over its effect, and 1, in integers.

    With weights that have one sum, lines add up to the same just where their off lines do.
    """
    effects = [[hand.effect(name) for name in swap.strangers] for hand in swap.hands]
    return [[*row, 1] for row in whole_lines(effects, len(swap.strangers))[0]]
