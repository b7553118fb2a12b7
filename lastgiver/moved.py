"""Moves among the allowed sets of a deal of few hand-overs; sets are told by masks, in the order of done sets."""

from lastgiver.cells import mask_of, numbers_in, sums_among
from lastgiver.checks import is_within
from lastgiver.deals import allowed_sets, check_deal, check_ends
from lastgiver.errors import BadNumber, TooMany

MOST_HANDS = 8


def check_few_hands(deal):
    """Raise TooMany for more hand-overs than can be done in all groups."""
    if len(deal.swap.hands) > MOST_HANDS:
        raise TooMany("hands", MOST_HANDS)


def check_few_ways(deal):
    """Raise the error for what is no Deal, has no way, or has too many hand-overs."""
    check_deal(deal)
    check_ends(deal)
    check_few_hands(deal)


def check_largest(largest):
    """Raise BadNumber for what is no greatest group."""
    if not is_within(largest, 1, None):
        raise BadNumber("largest")


def allowed_masks(deal):
    """The list of the masks of all allowed sets."""
    return [mask_of(done) for done in allowed_sets(deal)]


def sizes_by_mask(many):
    """How many hand-overs each set of so many has, at the place that is its mask."""
    return sums_among(0, [1] * many)


def moves_to(values, mask, sizes, largest):
    """For each move to a set, of at most so many hand-overs, from another one that has a value: a triple.

    It tells the value, how many hand-overs are done, and the set from which they are.
    """
    return [
        (value, sizes[mask ^ inner], inner) for inner, value in values.items()
        if inner & mask == inner and sizes[mask ^ inner] <= largest
    ]


def groups_to(ahead, mask, many):
    """The groups that lead to a set, if for each set on the way the one ahead of it is told; the empty one has none."""
    groups = []
    behind = mask
    while behind > 0:
        groups.append(numbers_in(behind ^ ahead[behind], many))
        behind = ahead[behind]
    return groups[::-1]


def sets_along(groups):
    """The sets of a way with these groups, whether they are allowed or not."""
    done = ()
    sets = [done]
    for group in groups:
        done = tuple(sorted([*done, *group]))
        sets.append(done)
    return tuple(sets)
