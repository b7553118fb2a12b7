"""Whether papers about good rows are right, read by adding up."""

from lastgiver.cells import mask_of
from lastgiver.checks import are_integers, ascends, is_done_set, is_row, is_within
from lastgiver.deals import check_deal, first_bad_moment
from lastgiver.kind_rows import StuckKinds, check_unleant_deal
from lastgiver.kinds import Kinds, are_counts
from lastgiver.rows import Good, Stuck
from lastgiver.two_sides import Gap, Sides, check_sides, is_gap, side_tracks, stretch_at


def shows_good(deal, value):
    """Whether any value is a Good whose row is good."""
    check_deal(deal)
    if type(value) is not Good or not is_row(len(deal.swap.hands), value.row):
        return False
    return first_bad_moment(deal, value.row) is None


def shows_stuck(deal, value):
    """Whether any value is a Stuck whose sets are a closed list."""
    check_deal(deal)
    return type(value) is Stuck and _are_in_order(value.sets) and is_closed_list(deal, value.sets)


def shows_stuck_kinds(deal, value):
    """Whether any value is a StuckKinds whose counts are a closed list."""
    check_unleant_deal(deal)
    kinds = Kinds(deal.swap)
    if type(value) is not StuckKinds or not _are_listed_counts(kinds.sizes, value.counts):
        return False
    listed = {counts: True for counts in value.counts}
    none = (0,) * len(kinds.sizes)
    if kinds.sizes in listed or (none not in listed and _allows_counts(deal, kinds, none)):
        return False
    return all([_counts_lead_within(deal, kinds, counts, listed) for counts in value.counts])


def shows_sides(one, many, other, more, bounds, value):
    """Whether any value is a Sides with a good tuple."""
    check_sides(one, many, other, more, bounds)
    tracks = side_tracks(one, many, other, more, bounds)
    if type(value) is not Sides or not are_integers(value.row):
        return False
    row = value.row
    if len(row) != many + more or sum(row) != more or not all([side in (0, 1) for side in row]):
        return False
    return all([_bears_all(track, row) for track in tracks])


def shows_gap(one, many, other, more, bounds, value):
    """Whether any value is a Gap with a gap."""
    check_sides(one, many, other, more, bounds)
    tracks = side_tracks(one, many, other, more, bounds)
    if type(value) is not Gap or not is_within(value.place, 0, many - 1):
        return False
    return is_gap(stretch_at(tracks, value.place, more), stretch_at(tracks, value.place + 1, more))


def is_closed_list(deal, value):
    """Whether any value is a tuple of the sets of a closed list, in any order."""
    many = len(deal.swap.hands)
    if not isinstance(value, tuple) or not all([is_done_set(many, done) for done in value]):
        return False
    listed = {mask_of(done): True for done in value}
    if len(listed) < len(value) or (1 << many) - 1 in listed or (0 not in listed and deal.is_allowed(())):
        return False
    return all([leads_within(deal, done, listed) for done in value])


def _are_in_order(value):
    """Whether any value is a tuple of tuples of integers in the order of done sets."""
    if not isinstance(value, tuple) or not all([are_integers(done) for done in value]):
        return False
    return ascends([(len(done), done) for done in value])


def leads_within(deal, done, listed):
    """Whether a set is allowed, and each single move from it leads to a listed one."""
    if not deal.is_allowed(done):
        return False
    mask = mask_of(done)
    return all([mask | (1 << number) in listed for number in deal.moves(done)])


def _are_listed_counts(sizes, value):
    """Whether any value is a tuple of different counts, in their order."""
    if not isinstance(value, tuple) or not all([are_counts(sizes, counts) for counts in value]):
        return False
    return ascends([(sum(counts), counts) for counts in value])


def _allows_counts(deal, kinds, counts):
    """Whether counts are allowed."""
    return deal.is_allowed(kinds.first_with(counts))


def _counts_lead_within(deal, kinds, counts, listed):
    """Whether counts are allowed, and each single move from them leads to listed ones."""
    if not _allows_counts(deal, kinds, counts):
        return False
    moves = deal.moves(kinds.first_with(counts))
    for kind, count in enumerate(counts):
        if count < kinds.sizes[kind] and kinds.numbers[kind][count] in moves:
            if (*counts[:kind], count + 1, *counts[kind + 1:]) not in listed:
                return False
    return True


def _bears_all(track, row):
    """Whether a stranger bears its sums at all beginnings of a row of sides."""
    total = 0
    for side in row:
        total = total + track.effects[side]
        if not track.bears(total):
            return False
    return track.bears(0)
