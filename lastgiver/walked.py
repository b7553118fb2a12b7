"""A row of a deal, moment by moment."""

from lastgiver.bounds import Bounds
from lastgiver.checks import row_told
from lastgiver.deals import check_deal
from lastgiver.ratios import added, greatest_of
from lastgiver.sums import along


class Moment:
    """What holds at one moment of a row."""

    def __init__(self, number, done, line, objected, unkept):
        self.number = number
        self.done = done
        self.line = line
        self.objected = objected
        self.unkept = unkept


class RowWalk:
    """A row of all hand-overs of a deal, moment by moment."""

    def __init__(self, deal, row):
        check_deal(deal)
        self.deal = deal
        self.row = row_told(len(deal.swap.hands), row, "row")
        lines = list(along(deal.swap, self.row))
        self.moments = tuple([_moment_of(deal, self.row[:number], line) for number, line in enumerate(lines)])
        bad = [moment for moment in self.moments if len(moment.objected) > 0 or len(moment.unkept) > 0]
        self.is_good = len(bad) == 0
        self.first_bad = None if len(bad) == 0 else bad[0]
        self.needs = _needs_of(deal.swap, lines)
        self.lent = tuple([lent_on(line) for line in lines])
        self.above = tuple([above_on(deal.swap, line) for line in lines])


def _moment_of(deal, numbers, line):
    """The Moment behind these hand-overs."""
    done = tuple(sorted(list(numbers)))
    return Moment(len(done), done, line, deal.objections(done), deal.broken(done))


def _needs_of(swap, lines):
    """The least Bounds at which nobody objects at any of these sums."""
    trusts = []
    pledges = []
    for place, net in enumerate(swap.nets):
        trusts.append(greatest_of([0, *[-line[place] for line in lines]]))
        pledges.append(greatest_of([0, *[line[place] - net for line in lines]]))
    return Bounds(trusts, pledges)


def lent_on(line):
    """What all strangers together are below 0."""
    return added([-total for total in line if total.sign < 0])


def above_on(swap, line):
    """What all strangers together are above their nets."""
    return added([total - net for total, net in zip(line, swap.nets) if net.is_below(total)])
