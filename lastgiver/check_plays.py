"""Whether papers about plays are right."""

from lastgiver.checks import is_row
from lastgiver.deals import check_deal
from lastgiver.group_plays import PlayedGroups, are_groups, played_groups
from lastgiver.matched import matches
from lastgiver.plays import Played, check_careful, played
from lastgiver.seasons import Season, check_weeks, season_told
from lastgiver.swaps import check_swap


def shows_played(deal, value, careful=False):
    """Whether any value is a Played that is right for its row."""
    check_deal(deal)
    check_careful(careful)
    if type(value) is not Played or not is_row(len(deal.swap.hands), value.row):
        return False
    return matches(value.parts, played(deal, value.row, careful).parts)


def shows_played_groups(deal, value, careful=False):
    """Whether any value is a PlayedGroups that is right for its groups."""
    check_deal(deal)
    check_careful(careful)
    if type(value) is not PlayedGroups or not are_groups(len(deal.swap.hands), value.groups):
        return False
    return matches(value.parts, played_groups(deal, value.groups, careful).parts)


def shows_season(swap, q, weeks, value):
    """Whether any value is a Season that is right for its row."""
    check_swap(swap)
    check_weeks(q, weeks)
    if type(value) is not Season or not is_row(len(swap.hands), value.row):
        return False
    # Ahead of working out as many weeks as are told.
    if not isinstance(value.leaves, tuple) or len(value.leaves) != weeks:
        return False
    return matches(value.parts, season_told(swap, value.row, q, weeks).parts)
