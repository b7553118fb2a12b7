"""How much the next week has to be worth, if a swap is done for ever."""

from lastgiver.deals import check_deal
from lastgiver.dials import Dial
from lastgiver.least import least
from lastgiver.papers import Paper, fixed
from lastgiver.ratios import Ratio


class Patience(Paper):
    """The least share, and the Least on the dial of the weeks."""

    def __init__(self, number, factor):
        self.word = "patience"
        self.parts = fixed((number, factor))
        self.number = self.parts[0]
        self.factor = self.parts[1]


def patience(deal):
    """A Patience, or the Never of the dial of the weeks."""
    check_deal(deal)
    found = least(deal, Dial.by_weeks(deal.swap))
    if not found:
        return found
    return Patience(share_of(found.number), found)


def share_of(factor):
    """The share q of which q / (1 - q) is this factor."""
    told = Ratio.of(factor)
    return told.over(told + 1)
