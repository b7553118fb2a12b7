"""Whether papers about ways by groups are right."""

from lastgiver.cells import mask_of
from lastgiver.checks import is_done_set, is_integer
from lastgiver.deals import check_deal, check_ends
from lastgiver.groups import Few, Most, Narrow
from lastgiver.matched import matches
from lastgiver.moved import MOST_HANDS, allowed_masks, check_largest, sets_along, sizes_by_mask
from lastgiver.together import Parted, Together, check_two, parting_sets, reasons_against, sets_ahead


def shows_parting(deal, e, f, value):
    """Whether any value is a Parted that parts two hand-overs, or a Together of what bars all that would."""
    check_two(deal, e, f)
    if type(value) is Parted:
        return _is_allowed_set(deal, value.done) and (e in value.done) != (f in value.done)
    if type(value) is not Together or len(deal.swap.hands) > MOST_HANDS:
        return False
    return _bar_all(deal, parting_sets(deal, e, f), value.lines)


def shows_behind(deal, e, f, value):
    """Whether any value is a Parted that has f and not e, or a Together of what bars all that have."""
    check_two(deal, e, f)
    if type(value) is Parted:
        return _is_allowed_set(deal, value.done) and f in value.done and e not in value.done
    if type(value) is not Together or len(deal.swap.hands) > MOST_HANDS:
        return False
    return _bar_all(deal, sets_ahead(deal, e, f), value.lines)


def shows_most(deal, value):
    """Whether any value is a Most with ranks that show it."""
    check_deal(deal)
    check_ends(deal)
    many = len(deal.swap.hands)
    if type(value) is not Most or many > MOST_HANDS or not _has_groups(deal, value):
        return False
    ranks = _ranks_by_mask(deal, value.ranks)
    masks = allowed_masks(deal)
    if ranks is None or len(ranks) < len(masks) or ranks[0] != 0 or ranks[masks[-1]] != value.number:
        return False
    return all([
        ranks[inner] < ranks[mask] for mask in masks for inner in masks
        if inner & mask == inner and inner != mask
    ])


def shows_narrow(deal, value):
    """Whether any value is a Narrow with a fence that shows it."""
    check_deal(deal)
    check_ends(deal)
    many = len(deal.swap.hands)
    if type(value) is not Narrow or many > MOST_HANDS or not is_integer(value.number):
        return False
    if not _are_groups_of_way(deal, value.groups, value.number):
        return False
    if many == 0:
        return value.number == 0 and value.fence == ()
    if not isinstance(value.fence, tuple) or not all([_is_allowed_set(deal, done) for done in value.fence]):
        return False
    fence = {mask_of(done): True for done in value.fence}
    if len(fence) < len(value.fence) or 0 not in fence or (1 << many) - 1 in fence:
        return False
    masks = allowed_masks(deal)
    sizes = sizes_by_mask(many)
    return all([
        mask in fence or sizes[mask ^ inner] >= value.number
        for inner in fence for mask in masks
        if inner & mask == inner
    ])


def shows_few(deal, largest, value):
    """Whether any value is a Few, for groups of at most largest hand-overs, with ranks that show it."""
    check_deal(deal)
    check_largest(largest)
    check_ends(deal)
    many = len(deal.swap.hands)
    if type(value) is not Few or many > MOST_HANDS or not _has_groups(deal, value):
        return False
    ranks = _ranks_by_mask(deal, value.ranks)
    full = (1 << many) - 1
    if ranks is None or not _are_groups_of_way(deal, value.groups, largest):
        return False
    if ranks.get(0, None) != 0 or ranks.get(full, None) != value.number:
        return False
    masks = allowed_masks(deal)
    sizes = sizes_by_mask(many)
    return all([
        mask in ranks and ranks[mask] <= rank + 1
        for inner, rank in ranks.items() for mask in masks
        if inner & mask == inner and 1 <= sizes[mask ^ inner] <= largest
    ])


def _is_allowed_set(deal, value):
    """Whether any value is an allowed set, as a paper tells it."""
    return is_done_set(len(deal.swap.hands), value) and deal.is_allowed(value)


def _bar_all(deal, sets, lines):
    """Whether any value has for just all of these sets, in any order, a pair of it and what bars it."""
    if not isinstance(lines, tuple) or len(lines) != len(sets):
        return False
    many = len(deal.swap.hands)
    if not all([isinstance(pair, tuple) and len(pair) == 2 and is_done_set(many, pair[0]) for pair in lines]):
        return False
    reasons = {done: reason for done, reason in lines}
    if not all([done in reasons for done in sets]):
        return False
    return all([
        any([matches(reasons[done], right) for right in reasons_against(deal, done)])
        for done in sets
    ])


def _are_groups_of_way(deal, value, largest):
    """Whether any value has the groups of a way, none of more than largest hand-overs."""
    many = len(deal.swap.hands)
    if not isinstance(value, tuple) or not all([is_done_set(many, group) for group in value]):
        return False
    if not all([1 <= len(group) <= largest for group in value]):
        return False
    if sorted([number for group in value for number in group]) != list(range(many)):
        return False
    return all([deal.is_allowed(done) for done in sets_along(value)])


def _has_groups(deal, value):
    """Whether a paper has the groups of a way, and their number."""
    if not is_integer(value.number) or not _are_groups_of_way(deal, value.groups, len(deal.swap.hands)):
        return False
    return len(value.groups) == value.number


def _ranks_by_mask(deal, value):
    """The ranks by the masks of their sets, for any value that is a tuple of pairs of them, or None."""
    if not isinstance(value, tuple) or not all([isinstance(pair, tuple) and len(pair) == 2 for pair in value]):
        return None
    if not all([_is_allowed_set(deal, done) and is_integer(rank) for done, rank in value]):
        return None
    ranks = {mask_of(done): rank for done, rank in value}
    return ranks if len(ranks) == len(value) else None
