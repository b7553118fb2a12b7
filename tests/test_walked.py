"""Rows, moment by moment."""

import random
import unittest

from lastgiver.bounds import Bounds
from lastgiver.deals import Deal
from lastgiver.errors import BadDeal, BadRow
from lastgiver.ratios import Ratio
from lastgiver.sums import sums
from lastgiver.swaps import Swap
from lastgiver.walked import Moment, RowWalk

from support import CUP, NO_DEALS, NO_DONE, NO_HANDS, Case, as_fraction, line, plain_allowed, plain_good, random_deals

FOUR = Deal(CUP + CUP, Bounds.alike(2, 1, 1), [(1, 0)])


class WalkedTest(Case):
    def test_wrong_values(self):
        self.check_each_raises(BadDeal("deal"), NO_DEALS, lambda value: RowWalk(value, None))
        wrong = [*NO_DONE, [], [0, 1, 2], (0, 1, 2, 2), (0, 1, 2, 4), [0, 1, 2, 3, 3], [-1, 0, 1, 2], [0, 1, 2, True]]
        self.check_each_raises(BadRow("row"), wrong, lambda value: RowWalk(FOUR, value))

    def test_attributes(self):
        passed = [0, 1, 2, 3]
        walk = RowWalk(row=passed, deal=FOUR)
        passed.pop()
        self.assertEqual(FOUR, walk.deal)
        self.check_same([(0, 1, 2, 3), False], [walk.row, walk.is_good])
        self.assertEqual([0, 1, 2, 3, 4], [moment.number for moment in walk.moments])
        self.assertEqual({Moment}, {type(moment) for moment in walk.moments})
        self.assertIs(walk.moments[1], walk.first_bad)
        self.check_same([(0,), line(-2, 3)], [walk.first_bad.done, walk.first_bad.line])
        self.assertEqual(["ann drawn 1"], [str(told) for told in walk.first_bad.objected])
        self.check_same([((1, 0),), ()], [walk.first_bad.unkept, walk.moments[2].unkept])

    def test_a_moment_is_bad_by_a_leaning_alone(self):
        deal = Deal(CUP, Bounds.alike(2, None, None), [(1, 0)])
        walk = RowWalk(deal, (0, 1))
        self.assertEqual((False, 1, ()), (walk.is_good, walk.first_bad.number, walk.first_bad.objected))
        self.assertEqual((True, None), (RowWalk(deal, (1, 0)).is_good, RowWalk(deal, [1, 0]).first_bad))

    def test_no_hand_over_and_40(self):
        walk = RowWalk(Deal(NO_HANDS, Bounds.zero(2)), [])
        self.assertEqual((True, None, (), "0 0 , 0 0"), (walk.is_good, walk.first_bad, walk.row, str(walk.needs)))
        self.check_same([(Ratio(0),), (Ratio(0),), (), line(0, 0)], [walk.lent, walk.above, walk.moments[0].done, walk.moments[0].line])
        walk = RowWalk(Deal(Swap(CUP.strangers, CUP.hands * 20), Bounds.alike(2, 20, 20)), list(range(40))[::-1])
        self.assertEqual((41, True, "0 2 , 2 0"), (len(walk.moments), walk.is_good, str(walk.needs)))

    def test_rows_by_adding_up(self):
        rnd = random.Random(21)
        for deal in random_deals(21, 80):
            row = rnd.sample(range(len(deal)), len(deal))
            walk = RowWalk(deal, row)
            self.assertIs(plain_good(deal, row), walk.is_good)
            bad = [moment for moment in range(len(row) + 1) if not plain_allowed(deal, row[:moment])]
            self.assertEqual(bad[0] if bad else None, walk.first_bad and walk.first_bad.number)
            self.assertEqual(len(row) + 1, len(walk.moments))
            for number, moment in enumerate(walk.moments):
                done = tuple(sorted(row[:number]))
                self.check_same([number, done, sums(deal.swap, done)], [moment.number, moment.done, moment.line])
                self.assertEqual((deal.objections(done), deal.broken(done)), (moment.objected, moment.unkept))
            self.check_totals(walk)

    def check_totals(self, walk):
        """What a walk needs, and what is lent and above, by its lines."""
        nets = [as_fraction(net) for net in walk.deal.swap.nets]
        lines = [[as_fraction(total) for total in moment.line] for moment in walk.moments]
        lent = [sum(max(0, -total) for total in told) for told in lines]
        above = [sum(max(0, total - net) for total, net in zip(told, nets)) for told in lines]
        self.assertEqual((lent, above), ([as_fraction(told) for told in walk.lent], [as_fraction(told) for told in walk.above]))
        self.assertEqual({tuple, Ratio}, {type(walk.lent), type(walk.above)} | {type(told) for told in walk.lent + walk.above})
        for place, net in enumerate(nets):
            self.assertEqual(max(max(0, -told[place]) for told in lines), as_fraction(walk.needs.trusts[place]))
            self.assertEqual(max(max(0, told[place] - net) for told in lines), as_fraction(walk.needs.pledges[place]))

    def test_nobody_objects_at_what_a_row_needs_and_no_less_will_do(self):
        for deal in random_deals(22, 40, leanings=False):
            row = list(range(len(deal)))
            needs = RowWalk(deal, row).needs
            self.assertTrue(RowWalk(deal.with_bounds(needs), row).is_good)
            self.assertEqual(needs.covers(deal.bounds) and deal.bounds.covers(needs), needs == deal.bounds)
            self.assertIs(deal.bounds.covers(needs), RowWalk(deal, row).is_good)


if __name__ == "__main__":
    unittest.main()
