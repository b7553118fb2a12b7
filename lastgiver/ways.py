"""Ways of a deal: several hand-overs may be done at one moment."""

from lastgiver.cells import mask_of, numbers_in
from lastgiver.checks import are_integers, check_hand, check_none_twice, is_integer, is_listed
from lastgiver.deals import check_deal, check_ends
from lastgiver.errors import Ahead, BadNumber, BadWay, Beyond, Objects
from lastgiver.moved import (
    allowed_masks, check_few_hands, check_largest, moves_to, sets_along, sizes_by_mask,
)


class Way:
    """Groups of a deal's hand-overs, each done at one moment, such that the sets behind all are allowed."""

    def __init__(self, deal, groups):
        check_deal(deal)
        _check_groups(len(deal.swap.hands), groups)
        self.deal = deal
        self.groups = tuple([tuple(sorted(list(group))) for group in groups])
        self.sets = sets_along(self.groups)
        for place, done in enumerate(self.sets):
            _check_set(deal, done, place)

    @property
    def largest(self):
        """How many hand-overs the greatest group has, 0 without groups."""
        return max([0, *[len(group) for group in self.groups]])

    def __len__(self):
        return len(self.groups)

    def __iter__(self):
        return iter(self.groups)

    def __eq__(self, other):
        return isinstance(other, Way) and self.deal == other.deal and self.groups == other.groups

    def merged(self, at):
        """The Way with the groups at this place and behind it made one."""
        if not is_integer(at):
            raise BadNumber("at")
        if not 0 <= at < len(self.groups) - 1:
            raise Beyond(at)
        both = self.groups[at] + self.groups[at + 1]
        return Way(self.deal, [*self.groups[:at], both, *self.groups[at + 2:]])

    def refined(self):
        """A Way got from this one by splitting groups, none of which can be split further."""
        check_few_hands(self.deal)
        masks = allowed_masks(self.deal)
        many = len(self.deal.swap.hands)
        ends = [mask_of(done) for done in self.sets]
        groups = []
        for low, high in zip(ends, ends[1:]):
            steps = [low, *_masks_between(masks, low, high)]
            groups = groups + [numbers_in(inner ^ outer, many) for inner, outer in zip(steps, steps[1:])]
        return Way(self.deal, groups)

    def as_row(self):
        """The row, if each group is single; otherwise None."""
        if not all([len(group) == 1 for group in self.groups]):
            return None
        return tuple([group[0] for group in self.groups])


def count_ways(deal, largest=None):
    """How many ways there are, with groups of at most largest hand-overs each."""
    check_deal(deal)
    if largest is not None:
        check_largest(largest)
    check_ends(deal)
    check_few_hands(deal)
    many = len(deal.swap.hands)
    masks = allowed_masks(deal)
    sizes = sizes_by_mask(many)
    ways = {0: 1}
    for mask in masks[1:]:
        moves = moves_to(ways, mask, sizes, many if largest is None else largest)
        ways[mask] = sum([value for value, size, inner in moves])
    return ways[masks[-1]]


def _check_groups(many, groups):
    """Raise the error for what are no groups of so many hand-overs, each number in one of them."""
    if not is_listed(groups) or not all([are_integers(group) and len(group) > 0 for group in groups]):
        raise BadWay("groups")
    numbers = [number for group in groups for number in group]
    for number in numbers:
        check_hand(many, number)
    check_none_twice(numbers)
    if len(numbers) < many:
        raise BadWay("missing")


def _check_set(deal, done, place):
    """Raise what first bars a set behind so many groups."""
    broken = deal.broken(done)
    if len(broken) > 0:
        raise Ahead(broken[0][0], broken[0][1])
    objected = deal.objections(done)
    if len(objected) > 0:
        raise Objects(objected[0].name, objected[0].amount, place)


def _masks_between(masks, low, high):
    """Those of the masks that lead from a lower one to a higher one, which is the last, by the least moves.

    Fewer hand-overs stand ahead: so no set lies between one that is taken and the next one that is.
    """
    found = []
    last = low
    for mask in masks:
        if mask != last and last & mask == last and mask & high == mask:
            found.append(mask)
            last = mask
    return found
