"""Groups of hand-overs played: ahead of each group all strangers are asked."""

from lastgiver.checks import are_integers, is_listed
from lastgiver.deals import check_deal
from lastgiver.errors import BadWay
from lastgiver.papers import Paper, fixed
from lastgiver.plays import check_careful, ended_by, falls_below, gains_by_leaving
from lastgiver.sums import sums


class PlayedGroups(Paper):
    """Groups, who leaves ahead of each one, and the outcomes at each moment."""

    def __init__(self, groups, leavers, outcomes):
        self.word = "playedgroups"
        self.parts = fixed((groups, leavers, outcomes))
        self.groups = self.parts[0]
        self.leavers = self.parts[1]
        self.outcomes = self.parts[2]


def played_groups(deal, groups, careful=False):
    """The groups played, plainly or carefully."""
    check_deal(deal)
    if not are_groups(len(deal.swap.hands), groups):
        raise BadWay("groups")
    check_careful(careful)
    told = [tuple(sorted(list(group))) for group in groups]
    lines = _lines_along(deal.swap, told)
    outcomes = [deal.swap.nets]
    leavers = []
    for moment in reversed(range(len(told))):
        place = _last_to_leave(deal.bounds, lines[moment], lines[moment + 1], outcomes[-1], careful)
        leavers.append(None if place is None else deal.swap.strangers[place])
        ended = outcomes[-1] if place is None else ended_by(lines[moment], place, deal.bounds.pledges[place])
        outcomes.append(ended)
    return PlayedGroups(told, leavers[::-1], outcomes[::-1])


def are_groups(many, value):
    """Whether any value is a list of lists, none empty, that have each of so many hand-overs once."""
    if not is_listed(value) or not all([are_integers(group) and len(group) > 0 for group in value]):
        return False
    return sorted([number for group in value for number in group]) == list(range(many))


def _lines_along(swap, groups):
    """The sums ahead of each group, and behind all."""
    lines = [sums(swap, ())]
    done = ()
    for group in groups:
        done = (*done, *group)
        lines.append(sums(swap, done))
    return lines


def _last_to_leave(bounds, line, next_line, outcomes, careful):
    """The place of the last stranger who would leave ahead of a group, or None."""
    last = None
    for place, total in enumerate(line):
        further = next_line[place]
        overdrawn = further.is_below(total) and falls_below(further, bounds.trusts[place])
        if gains_by_leaving(total, bounds.pledges[place], outcomes[place]) or (careful and overdrawn):
            last = place
    return last
