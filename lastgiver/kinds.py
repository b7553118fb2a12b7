"""The kinds of a swap: like hand-overs."""

from math import comb, factorial

from lastgiver.checks import are_integers, done_told
from lastgiver.errors import BadCounts
from lastgiver.sums import sums
from lastgiver.swaps import check_swap


class Kinds:
    """The kinds of a swap, in the order of their first hand-overs."""

    def __init__(self, swap):
        check_swap(swap)
        together = {}
        for number, hand in enumerate(swap.hands):
            together.setdefault(_likeness(hand), []).append(number)
        groups = list(together.values())
        self.hands = tuple([swap.hands[numbers[0]] for numbers in groups])
        self.numbers = tuple([tuple(numbers) for numbers in groups])
        self.sizes = tuple([len(numbers) for numbers in groups])
        self._swap = swap

    def __len__(self):
        return len(self.numbers)

    @property
    def orders(self):
        """In how many orders the hand-overs of all kinds can stand, each among its own kind."""
        ways = 1
        for size in self.sizes:
            ways = ways * factorial(size)
        return ways

    def counts_of(self, done):
        """How many of each kind a done set has."""
        told = done_told(len(self._swap), done, "done")
        return tuple([len([number for number in numbers if number in told]) for numbers in self.numbers])

    def first_with(self, counts):
        """The done set of the first ones of each kind."""
        self._check_counts(counts)
        firsts = [number for numbers, many in zip(self.numbers, counts) for number in numbers[:many]]
        return tuple(sorted(firsts))

    def sums_with(self, counts):
        """The sums at each done set with these counts."""
        return sums(self._swap, self.first_with(counts))

    def sets_with(self, counts):
        """How many done sets have these counts."""
        self._check_counts(counts)
        many = 1
        for size, count in zip(self.sizes, counts):
            many = many * comb(size, count)
        return many

    def _check_counts(self, counts):
        """Raise BadCounts for what is no list or tuple of counts."""
        if not are_counts(self.sizes, counts):
            raise BadCounts("counts")


def are_counts(sizes, value):
    """Whether any value is a list or tuple of counts of kinds of these sizes."""
    if not are_integers(value) or len(value) != len(sizes):
        return False
    return all([0 <= count <= size for count, size in zip(value, sizes)])


def _likeness(hand):
    """Equal for hand-overs of one kind, and fit to be a key."""
    return (hand.giver, hand.taker, hand.cost.top, hand.cost.bottom, hand.gain.top, hand.gain.bottom)
