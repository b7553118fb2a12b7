"""Leanings: pairs (e, f) of hand-overs, e done no later than f."""

from lastgiver.cells import mask_of, numbers_in
from lastgiver.checks import check_hand, done_told, is_listed, is_within
from lastgiver.errors import BadLeanings, BadNumber, Ring

MOST_HANDS = 40


class Leanings:
    """The leanings among so many hand-overs, without a ring."""

    def __init__(self, many, pairs):
        if not is_within(many, 0, MOST_HANDS):
            raise BadNumber("many")
        if not are_pairs(pairs):
            raise BadLeanings("pairs")
        for one, other in pairs:
            check_hand(many, one)
            check_hand(many, other)
        self.many = many
        self.pairs = tuple(sorted({(one, other) for one, other in pairs}))
        self._needed = _needed_masks(many, self.pairs)
        self._ahead = _ahead_masks(self._needed)
        for number in range(many):
            if self._ahead[number] >> number & 1:
                raise Ring(number, _shortest_ring(number, self._needed))

    def __len__(self):
        return len(self.pairs)

    def __iter__(self):
        return iter(self.pairs)

    def __eq__(self, other):
        return isinstance(other, Leanings) and self.many == other.many and self.pairs == other.pairs

    def broken(self, done):
        """The tuple of those that a done set breaks."""
        mask = mask_of(done_told(self.many, done, "done"))
        return tuple([(one, other) for one, other in self.pairs if mask >> other & 1 and not mask >> one & 1])

    def free(self, done):
        """The numbers not in the set that can be put in without breaking a further leaning."""
        mask = mask_of(done_told(self.many, done, "done"))
        return tuple([
            number for number in range(self.many)
            if not mask >> number & 1 and self._needed[number] & mask == self._needed[number]
        ])

    def ahead_of(self, number):
        """All numbers from which leanings lead to this one, directly or through others."""
        check_hand(self.many, number)
        return numbers_in(self._ahead[number], self.many)

    def turned(self):
        """The Leanings with each (e, f) as (f, e)."""
        return Leanings(self.many, [(other, one) for one, other in self.pairs])

    def wanted(self, numbers):
        """The mask of all on which some of these numbers lean at once; a set without one of them breaks a leaning."""
        mask = 0
        for number in numbers:
            mask = mask | self._needed[number]
        return mask


def are_pairs(value):
    """Whether any value is a list or tuple of lists or tuples of two items."""
    return is_listed(value) and all([is_listed(pair) and len(pair) == 2 for pair in value])


def pairs_among(leanings, numbers):
    """The pairs of leanings between these numbers, each told by its place among them."""
    places = {number: place for place, number in enumerate(numbers)}
    return [(places[one], places[other]) for one, other in leanings.pairs if one in places and other in places]


def _needed_masks(many, pairs):
    """For each number the mask of those on which it leans at once."""
    masks = [0 for number in range(many)]
    for one, other in pairs:
        masks[other] = masks[other] | (1 << one)
    return masks


def _ahead_masks(needed):
    """For each number the mask of those on which it leans, at once or through others."""
    masks = list(needed)
    for between in range(len(masks)):
        masks = [mask | masks[between] if mask >> between & 1 else mask for mask in masks]
    return masks


def _shortest_ring(number, needed):
    """The first, as tuples are ordered, of the shortest rings that begin with a number that stands in one."""
    steps = _steps_to(number, needed)
    ring = [number]
    left = min([steps[other] for other in _leaning_on(number, needed) if other in steps])
    while left > 0:
        nexts = _leaning_on(ring[-1], needed)
        ring.append(min([other for other in nexts if other in steps and steps[other] == left]))
        left = left - 1
    return tuple(ring)


def _leaning_on(number, needed):
    """The numbers that lean on this one at once."""
    return [other for other in range(len(needed)) if needed[other] >> number & 1]


def _steps_to(number, needed):
    """For each number from which leanings lead to this one, the least number of them; 0 for itself."""
    steps = {number: 0}
    layer = [number]
    while layer:
        further = sorted({one for other in layer for one in numbers_in(needed[other], len(needed))})
        fresh = [one for one in further if one not in steps]
        for one in fresh:
            steps[one] = steps[layer[0]] + 1
        layer = fresh
    return steps
