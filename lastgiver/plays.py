"""Rows played: ahead of each hand-over its giver gives or leaves."""

from lastgiver.checks import row_told
from lastgiver.deals import check_deal
from lastgiver.errors import BadPlay
from lastgiver.papers import Paper, fixed
from lastgiver.sums import along


class Played(Paper):
    """A row, whether each giver leaves, and the outcomes at each moment."""

    def __init__(self, row, leaves, outcomes):
        self.word = "played"
        self.parts = fixed((row, leaves, outcomes))
        self.row = self.parts[0]
        self.leaves = self.parts[1]
        self.outcomes = self.parts[2]
        self.moment = _first_leaving(self.leaves)

    @property
    def is_whole(self):
        """Whether the row is played to its end."""
        return self.moment == len(self.leaves)

    @property
    def handed(self):
        """The tuple of what is handed over."""
        return self.row[:self.moment]


def played(deal, row, careful=False):
    """The row played, plainly or carefully."""
    told = _row_of(deal, row)
    check_careful(careful)
    lines = list(along(deal.swap, told))
    found = played_from_behind(deal.swap, deal.bounds, told, lines, careful)
    return Played(told, found[0], found[1])


def leaver(deal, row, careful=False):
    """The name of the stranger at whom the row is stopped, None if it is played to its end."""
    paper = played(deal, row, careful)
    if paper.is_whole:
        return None
    return deal.swap.hands[paper.row[paper.moment]].giver


def tempted(deal, row):
    """Yield (moment, name, amount) for each moment at which the next giver would leave."""
    told = _row_of(deal, row)
    lines = list(along(deal.swap, told))
    for moment, number in enumerate(told):
        name = deal.swap.hands[number].giver
        place = deal.swap.strangers.index(name)
        pledge = deal.bounds.pledges[place]
        if pledge is not None:
            amount = lines[moment][place] - deal.swap.nets[place] - pledge
            if amount.sign > 0:
                yield (moment, name, amount)


def check_careful(careful):
    """Raise BadPlay for any value but True and False."""
    if careful is not True and careful is not False:
        raise BadPlay("careful")


def played_from_behind(swap, bounds, row, lines, careful, last=None):
    """For a row with these sums: whether each giver leaves, and the outcomes at each moment.

    last are the outcomes when all is done, the nets if none are told.
    """
    outcomes = [swap.nets if last is None else last]
    leaves = []
    for moment in reversed(range(len(row))):
        hand = swap.hands[row[moment]]
        place = swap.strangers.index(hand.giver)
        total = lines[moment][place]
        pledge = bounds.pledges[place]
        leaving = gains_by_leaving(total, pledge, outcomes[-1][place])
        if careful and falls_below(total - hand.cost, bounds.trusts[place]):
            leaving = True
        leaves.append(leaving)
        outcomes.append(ended_by(lines[moment], place, pledge) if leaving else outcomes[-1])
    return tuple(leaves[::-1]), tuple(outcomes[::-1])


def gains_by_leaving(total, pledge, outcome):
    """Whether a sum less the pledge, which is not wide, is above an outcome."""
    return pledge is not None and outcome.is_below(total - pledge)


def falls_below(total, trust):
    """Whether a sum is below what a trust, which is not wide, lets."""
    return trust is not None and total.is_below(-trust)


def ended_by(line, place, pledge):
    """The outcomes at these sums, when the stranger with this place leaves."""
    kept = None if pledge is None else line[place] - pledge
    return (*line[:place], kept, *line[place + 1:])


def _row_of(deal, row):
    """The row of a deal, as a tuple."""
    check_deal(deal)
    return row_told(len(deal.swap.hands), row, "row")


def _first_leaving(leaves):
    """The first moment at which somebody leaves, or how many there are; None for no such tuple."""
    if not isinstance(leaves, tuple):
        return None
    for moment, leaving in enumerate(leaves):
        if leaving is True:
            return moment
    return len(leaves)
