"""All good rows of a deal, numbered in order."""

from lastgiver.cells import mask_of
from lastgiver.checks import done_told, is_integer, is_row, is_within, row_told
from lastgiver.deals import check_small_deal, field_of, first_bad_moment
from lastgiver.errors import BadNumber, NoRow, NotGood
from lastgiver.fields import ways_on


class Rows:
    """The good rows of a deal, in order."""

    MOST = 12

    def __init__(self, deal):
        check_small_deal(deal)
        self.deal = deal
        self._ways = ways_on(field_of(deal).free_cells(), [1] * len(deal.swap.hands))
        self.count = self._ways.get(0, 0)

    def __bool__(self):
        return bool(self.count)

    def __contains__(self, x):
        return is_row(len(self.deal.swap.hands), x) and first_bad_moment(self.deal, x) is None

    def at(self, number):
        """The good row with this number."""
        if not is_integer(number):
            raise BadNumber("number")
        if not 0 <= number < self.count:
            raise NoRow(number)
        row = []
        mask = 0
        left = number
        for _ in range(len(self.deal.swap.hands)):
            hand = self._hand_with(mask, left)
            left = left - self._ways_before(mask, hand)
            mask = mask | (1 << hand)
            row.append(hand)
        return tuple(row)

    def place_of(self, row):
        """The number of a good row."""
        told = row_told(len(self.deal.swap.hands), row, "row")
        moment = first_bad_moment(self.deal, told)
        if moment is not None:
            raise NotGood(moment)
        place = 0
        mask = 0
        for hand in told:
            place = place + self._ways_before(mask, hand)
            mask = mask | (1 << hand)
        return place

    def from_set(self, done):
        """How many ways single moves lead from this done set to the full one."""
        return self._ways.get(mask_of(done_told(len(self.deal.swap.hands), done, "done")), 0)

    def in_order(self, many):
        """Yield the first good rows, so many, or all if there are fewer."""
        if not is_within(many, 0, None):
            raise BadNumber("many")
        row = ()
        for number in range(min(many, self.count)):
            row = self._row_after(row) if number > 0 else self._first_behind((), 0)
            yield row

    def _ways_before(self, mask, hand):
        """How many ways lead on from this set, done next a hand-over of a lesser number than this one."""
        return sum([self._ways.get(mask | (1 << other), 0) for other in range(hand) if not mask >> other & 1])

    def _hands_on(self, mask, least):
        """The hand-overs from least on that can be done next behind this set, so that all can be done."""
        hands = range(least, len(self.deal.swap.hands))
        return [hand for hand in hands if not mask >> hand & 1 and mask | (1 << hand) in self._ways]

    def _hand_with(self, mask, number):
        """The hand-over that is next in the way on from this set with this number."""
        hands = self._hands_on(mask, 0)
        return max([hand for hand in hands if self._ways_before(mask, hand) <= number])

    def _first_behind(self, row, mask):
        """The first good row that begins with these hand-overs, of which this is the mask."""
        told = list(row)
        behind = mask
        while len(told) < len(self.deal.swap.hands):
            hand = self._hands_on(behind, 0)[0]
            told.append(hand)
            behind = behind | (1 << hand)
        return tuple(told)

    def _row_after(self, row):
        """The next good row behind this one, which is not the last."""
        mask = mask_of(row)
        for place in reversed(range(len(row))):
            mask = mask - (1 << row[place])
            others = self._hands_on(mask, row[place] + 1)
            if len(others) > 0:
                return self._first_behind((*row[:place], others[0]), mask | (1 << others[0]))
        return ()
