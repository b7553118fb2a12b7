"""Rows played, plainly and carefully."""

import itertools
import random
import unittest
from fractions import Fraction

from lastgiver.bounds import Bounds
from lastgiver.deals import Deal
from lastgiver.errors import BadDeal, BadPlay, BadRow
from lastgiver.plays import Played, leaver, played, tempted
from lastgiver.ratios import Ratio
from lastgiver.swaps import HandOver, Swap
from lastgiver.turned import portion

from support import (
    CUP, NO_DEALS, NO_HANDS, NO_ROWS, Case, as_fraction, line, plain_broken, plain_good, plain_objections, plain_sums,
    random_bound, random_deals, random_swap,
)

BARE = Deal(CUP, Bounds.zero(2))
NO_FLAGS = [None, 0, 1, "", "True", [], (), 1.0, Ratio(1), object()]


def plain_play(deal, row, careful=False, asked=None):
    """Whether each giver leaves, and the outcomes, as Fractions.

    asked tells for each moment the places of those who are asked ahead of it, the giver last, if not it alone.
    """
    names = deal.swap.strangers
    outcomes = [plain_sums(deal.swap, row)]
    leaves = []
    for moment in reversed(range(len(row))):
        hand = deal.swap.hands[row[moment]]
        sums = plain_sums(deal.swap, row[:moment])
        now = outcomes[0]
        left = []
        for place in reversed([names.index(hand.giver)] if asked is None else asked[moment]):
            trust, pledge = deal.bounds.trusts[place], deal.bounds.pledges[place]
            gains = pledge is not None and sums[place] - as_fraction(pledge) > now[place]
            if careful and trust is not None and sums[place] - as_fraction(hand.cost) < -as_fraction(trust):
                gains = True
            if gains:
                now = list(sums)
                now[place] = None if pledge is None else sums[place] - as_fraction(pledge)
                left.append(place)
        leaves.insert(0, left != [] if asked is None else left)
        outcomes.insert(0, now)
    return leaves, outcomes


def as_lines(outcomes):
    """Lines of Ratios of outcomes."""
    return tuple(tuple(None if one is None else Ratio(one.numerator, one.denominator) for one in row) for row in outcomes)


def rows_of(deal, rnd, many=6):
    """Some rows of a deal, with itself."""
    for _ in range(many):
        yield tuple(rnd.sample(range(len(deal)), len(deal)))


def with_pledges(deal, pledges):
    """The deal with these pledges."""
    return deal.with_bounds(Bounds(deal.bounds.trusts, pledges))


class WrongValuesTest(Case):
    def test_wrong_values(self):
        for work in (played, leaver, lambda *told: list(tempted(*told[:2]))):
            self.check_each_raises(BadDeal("deal"), NO_DEALS, lambda value: work(value, None, None))
            self.check_each_raises(BadRow("row"), NO_ROWS, lambda value: work(BARE, value, None))
        for work in (played, leaver):
            self.check_each_raises(BadPlay("careful"), NO_FLAGS, lambda value: work(BARE, (0, 1), value))
            self.check_each_raises(BadPlay("careful"), NO_FLAGS, lambda value: work(deal=BARE, row=[1, 0], careful=value))

    def test_what_is_passed_stays(self):
        row = [1, 0]
        played(BARE, row, True)
        leaver(BARE, row)
        list(tempted(deal=BARE, row=row))
        self.assertEqual([1, 0], row)
        self.assertEqual(Deal(CUP, Bounds.zero(2)), BARE)


class PlayedTest(Case):
    def test_ratios_and_flags_are_of_their_classes(self):
        for row in ((0, 1), [0, 1]):
            found = played(BARE, row)
            self.assertIs(Played, type(found))
            self.check_same(((0, 1), (True, True), (line(0, 0), line(-2, 3), line(1, 1))), found.parts)
            self.check_same(("played", (0, 1), (True, True)), (found.word, found.row, found.leaves))
        self.assertTrue(found)
        self.assertTrue(found == Played([0, 1], [True, True], [[0, 0], [-2, 3], [1, 1]]))

    def test_no_hand_over(self):
        found = played(Deal(NO_HANDS, Bounds.zero(2)), (), careful=True)
        self.check_same(((), (), (line(0, 0),)), found.parts)
        self.check_same((0, True, ()), (found.moment, found.is_whole, found.handed))
        self.assertIsNone(leaver(Deal(NO_HANDS, Bounds.zero(2)), ()))
        self.assertEqual([], list(tempted(Deal(NO_HANDS, Bounds.zero(2)), [])))

    def test_played_to_its_end_and_stopped_at_moment_0(self):
        whole = played(Deal(CUP, Bounds.alike(2, 0, 2)), (1, 0))
        self.check_same((2, True, (1, 0)), (whole.moment, whole.is_whole, whole.handed))
        none = played(BARE, (1, 0))
        self.check_same((0, False, ()), (none.moment, none.is_whole, none.handed))
        self.assertEqual(("bob", None), (leaver(BARE, (1, 0)), leaver(Deal(CUP, Bounds.alike(2, 0, 2)), (1, 0))))

    def test_wide_bounds(self):
        wide = Deal(CUP, Bounds.alike(2, None, None))
        self.assertEqual((False, False), played(wide, (0, 1), careful=True).leaves)
        found = played(Deal(CUP, Bounds([0, 0], [None, 2])), (0, 1), careful=True)
        self.check_same((True, False), found.leaves)
        self.check_same(((None, Ratio(0)), line(1, 1), line(1, 1)), found.outcomes)
        # A stranger whose outcome is None leaves at an earlier moment by its trust alone.
        swap = Swap.read("a b | a b 1 0 | a b 1 0 | b a 3 3")
        both = played(Deal(swap, Bounds([0, None], [None, None])), (0, 1, 2), careful=True)
        self.check_same((True, True, False), both.leaves)
        self.check_same((None, Ratio(0)), both.outcomes[0])
        self.check_same((None, Ratio(0)), both.outcomes[1])

    def test_a_sum_that_is_just_enough(self):
        # Ann's sum less her pledge is just her outcome, and her sum less the cost just what she trusts.
        deal = Deal(CUP, Bounds([2, 0], [0, 2]))
        self.assertEqual((False, False), played(deal, (0, 1), careful=True).leaves)
        less = Deal(CUP, Bounds([Ratio(199, 100), 0], [0, Ratio(199, 100)]))
        self.assertEqual(((True, True), (True, True)), (played(less, (0, 1)).leaves, played(less, (0, 1), True).leaves))

    def test_leanings_have_no_part(self):
        deal = Deal(CUP, Bounds.alike(2, 2, 2), [(1, 0)])
        self.assertTrue(played(deal, (0, 1), careful=True).is_whole)

    def test_a_paper_with_any_parts(self):
        paper = Played(row=3, leaves=None, outcomes={"b": [1], "a": 2})
        self.check_same((3, None, (("a", 2), ("b", (1,)))), paper.parts)
        self.assertEqual(3, paper.row)

    def test_by_plain_play(self):
        rnd = random.Random(201)
        for deal in random_deals(202, 120):
            for row in rows_of(deal, rnd):
                for careful in (False, True):
                    leaves, outcomes = plain_play(deal, row, careful)
                    found = played(deal, list(row), careful)
                    self.check_same((row, tuple(leaves), as_lines(outcomes)), found.parts)
                    moment = (*leaves, True).index(True)
                    self.check_same((moment, moment == len(row), row[:moment]), (found.moment, found.is_whole, found.handed))
                    giver = None if moment == len(row) else deal.swap.hands[row[moment]].giver
                    self.assertEqual(giver, leaver(deal, row, careful))

    def test_tempted_by_trying(self):
        rnd = random.Random(203)
        some = 0
        for deal in random_deals(204, 100):
            for row in rows_of(deal, rnd, 3):
                expected = []
                for moment, number in enumerate(row):
                    giver = deal.swap.hands[number].giver
                    for name, side, amount in plain_objections(deal, row[:moment]):
                        if name == giver and side == "leaves":
                            expected.append((moment, name, Ratio(amount.numerator, amount.denominator)))
                self.check_same(expected, list(tempted(deal, row)))
                some += len(expected)
        self.assertGreater(some, 50)


class FactsTest(Case):
    def test_nobody_but_the_next_giver_would_ever_leave(self):
        rnd = random.Random(211)
        for deal in random_deals(212, 100):
            everyone = list(range(len(deal.swap.strangers)))
            for row in rows_of(deal, rnd, 3):
                orders = [rnd.sample(everyone, len(everyone)) for _ in row]
                leaves, outcomes = plain_play(deal, row, asked=orders)
                found = played(deal, row)
                self.assertEqual(as_lines(outcomes), found.outcomes)
                for moment, left in enumerate(leaves):
                    giver = deal.swap.strangers.index(deal.swap.hands[row[moment]].giver)
                    self.assertEqual([giver] if found.leaves[moment] else [], left)

    def test_played_to_its_end_exactly_if_nobody_would_leave(self):
        rnd = random.Random(213)
        whole = set()
        for deal in random_deals(214, 150):
            for row in rows_of(deal, rnd):
                found = played(deal, row)
                whole.add(found.is_whole)
                sides = [[side for _, side, _ in plain_objections(deal, row[:moment])] for moment in range(len(row))]
                self.assertIs(found.is_whole, not any("leaves" in told for told in sides))
                self.assertIs(found.is_whole, list(tempted(deal, row)) == [])
                if not any(plain_broken(deal, row[:moment]) for moment in range(len(row) + 1)):
                    self.assertIs(plain_good(deal, row), played(deal, row, careful=True).is_whole)
        self.assertEqual({False, True}, whole)

    def test_played_to_its_end_exactly_if_from_behind_nobody_owes_more_than_its_pledge(self):
        rnd = random.Random(215)
        for deal in random_deals(216, 100):
            for row in rows_of(deal, rnd):
                back = row[::-1]
                owes = False
                for moment in range(len(row) + 1):
                    for total, pledge in zip(plain_sums(deal.swap, back[:moment]), deal.bounds.pledges):
                        owes = owes or (pledge is not None and total < -as_fraction(pledge))
                self.assertIs(not owes, played(deal, row).is_whole)

    def test_nobody_gets_more_by_choosing_otherwise(self):
        rnd = random.Random(217)
        for deal in random_deals(218, 60, 4):
            for row in rows_of(deal, rnd, 2):
                found = played(deal, row)
                for place, name in enumerate(deal.swap.strangers):
                    pledge = deal.bounds.pledges[place]
                    if pledge is not None:
                        self.check_no_better_choice(deal, found, place, name, as_fraction(pledge))

    def check_no_better_choice(self, deal, found, place, name, pledge):
        """No choices of this stranger give it more, from any moment on."""
        givers = [deal.swap.hands[number].giver for number in found.row]
        asked = [moment for moment, giver in enumerate(givers) if giver == name]
        for chosen in itertools.product([False, True], repeat=len(asked)):
            leaves = list(found.leaves)
            for moment, leaving in zip(asked, chosen):
                leaves[moment] = leaving
            for moment in range(len(found.row) + 1):
                end = next((at for at in range(moment, len(leaves)) if leaves[at]), len(leaves))
                got = plain_sums(deal.swap, found.row[:end])[place]
                if end < len(leaves) and givers[end] == name:
                    got -= pledge
                self.assertLessEqual(got, as_fraction(found.outcomes[moment][place]))
                least = plain_sums(deal.swap, found.row[:moment])[place] - pledge
                if moment < len(leaves):
                    self.assertGreaterEqual(as_fraction(found.outcomes[moment][place]), least)

    def test_nothing_pledged_or_nobody_trusts(self):
        rnd = random.Random(219)
        for _ in range(100):
            told = random_swap(rnd, rnd.choice([2, 3, 4]), rnd.randrange(1, 6))
            swap = Swap(told.strangers, [HandOver(hand.giver, hand.taker, hand.cost + Ratio(1, 2), hand.gain) for hand in told])
            many = len(swap.strangers)
            trusts = [random_bound(rnd) for _ in swap.strangers]
            row = tuple(rnd.sample(range(len(swap)), len(swap)))
            self.assertEqual(0, played(Deal(swap, Bounds(trusts, [0] * many)), row).moment)
            self.assertEqual(0, played(Deal(swap, Bounds([0] * many, trusts)), row, careful=True).moment)

    def test_what_is_handed_over_is_played_to_its_end_by_itself(self):
        rnd = random.Random(220)
        some = 0
        for deal in random_deals(221, 200):
            for row in rows_of(deal, rnd, 3):
                handed = played(deal, row).handed
                some += 0 < len(handed) < len(row)
                numbers = tuple(sorted(handed))
                inner = Deal(portion(deal.swap, numbers), deal.bounds)
                self.assertTrue(played(inner, [numbers.index(number) for number in handed]).is_whole)
        self.assertGreater(some, 10)

    def test_with_greater_pledges_a_row_is_still_played_to_its_end(self):
        rnd = random.Random(222)
        for deal in random_deals(223, 100):
            more = [None if one is None else one + rnd.choice([0, Ratio(1, 2), 3]) for one in deal.bounds.pledges]
            for row in rows_of(deal, rnd):
                if played(deal, row).is_whole:
                    self.assertTrue(played(with_pledges(deal, more), row).is_whole)

    def test_a_greater_pledge_may_stop_a_row_sooner(self):
        gifts = Deal.read("a b x | a b 1 5 | x b 1 1 | a b 2 2 ; 0 2 , 0 0 , 0 0")
        self.assertEqual(1, played(gifts, (0, 1, 2)).moment)
        self.assertEqual(0, played(gifts.with_bounds(gifts.bounds.with_pledge(2, 1)), (0, 1, 2)).moment)

    def test_fractions_are_kept(self):
        swap = Swap.read("a b | a b 1/3 1/2 | b a 1/7 1/5")
        found = played(Deal(swap, Bounds([0, 0], [Ratio(1, 9), Ratio(1, 2)])), (0, 1))
        self.assertEqual(line(Ratio(1, 5) - Ratio(1, 3), Ratio(1, 2) - Ratio(1, 7)), found.outcomes[2])
        self.assertEqual(Fraction(-1, 3), as_fraction(Ratio(-1, 3)))


if __name__ == "__main__":
    unittest.main()
