"""Into how many pieces hand-overs have to be cut."""

import itertools
import random
import unittest

from lastgiver.bounds import Bounds
from lastgiver.deals import Deal
from lastgiver.errors import BadDeal, BadNumber, Leans, Loser, TooMany
from lastgiver.fitting import (
    EnoughPieces, FewestPieces, LeastPieces, NoFewest, NoPieces, Tight, enough_pieces, fewest_pieces, fitting, least_pieces,
)
from lastgiver.pieces import pieced
from lastgiver.ratios import Ratio
from lastgiver.roads import rank
from lastgiver.swaps import HandOver, Swap

from support import CUP, NO_DEALS, NO_HANDS, NO_NUMBERS, Case, as_fraction, random_bound, random_deals, random_swap

DEAL = Deal(CUP, Bounds.alike(2, 1, 1))
LEANT = Deal(CUP, Bounds.alike(2, 1, 1), [(1, 0)])
NEVER = Deal(CUP, Bounds.zero(2))


def told(work):
    """A function that goes through all that another one yields."""
    return lambda *passed, **more: list(work(*passed, **more))


class WrongValuesTest(Case):
    def test_most(self):
        for work in (told(fitting), least_pieces):
            self.check_each_raises(BadDeal("deal"), NO_DEALS, lambda value: work(value, None))
            for value in [*NO_NUMBERS, 0, -1]:
                self.check_raises(BadNumber("most"), work, deal=LEANT, most=value)
            self.check_raises(Leans(1, 0), work, LEANT, 10 ** 30)
            for many, most in ((1, 4096), (2, 64), (3, 16), (12, 2), (13, 1), (40, 1), (1, 10 ** 30)):
                deal = Deal(Swap(CUP.strangers, (CUP.hands * 20)[:many]), Bounds.alike(2, None, None))
                self.check_raises(TooMany("tallies", 4096), work, deal, most)

    def test_extra(self):
        many = Deal(Swap(CUP.strangers, (CUP.hands * 4)[:7]), Bounds.zero(2))
        self.check_each_raises(BadDeal("deal"), NO_DEALS, lambda value: fewest_pieces(value, None))
        for value in [*NO_NUMBERS, -1, 5, 10 ** 30]:
            self.check_raises(BadNumber("extra"), fewest_pieces, deal=LEANT, extra=value)
        self.check_raises(Leans(1, 0), fewest_pieces, Deal(many.swap, many.bounds, [(1, 0)]), 0)
        self.check_raises(TooMany("hands", 6), fewest_pieces, many, 0)

    def test_enough_pieces(self):
        self.check_each_raises(BadDeal("deal"), NO_DEALS, lambda value: enough_pieces(deal=value))
        losing = Swap.read("a b c | a b 1 5 | b c 4 1 | a c 1 0")
        self.check_raises(Leans(0, 1), enough_pieces, Deal(losing, Bounds.zero(3), [(0, 1)]))
        self.check_raises(Loser("a"), enough_pieces, Deal(losing, Bounds.zero(3)))


class FittingTest(Case):
    def test_pairs(self):
        found = list(fitting(DEAL, most=3))
        self.assertEqual([(1, pieced(DEAL, 1)), (2, pieced(DEAL, 2)), (3, pieced(DEAL, 3))], found)
        self.assertEqual([(1, pieced(Deal(NO_HANDS, Bounds.zero(2)), 1))], list(fitting(deal=Deal(NO_HANDS, Bounds.zero(2)), most=1)))
        for pieces, _ in fitting(Deal(NO_HANDS, Bounds.zero(2)), 10 ** 30):
            if pieces == 5:
                break

    def test_least_pieces(self):
        found = least_pieces(DEAL, 9)
        self.assertIs(LeastPieces, type(found))
        self.check_same((2, (0, 1, 0, 1), (((0, 0),),)), found.parts)
        self.check_same((True, "leastpieces", 2, (0, 1, 0, 1), (((0, 0),),)),
                        (bool(found), found.word, found.pieces, found.order, found.denials))
        none = least_pieces(NEVER, 3)
        self.assertIs(NoPieces, type(none))
        self.check_same((3, (((0, 0),),) * 3), none.parts)
        self.check_same((False, "nopieces", 3), (bool(none), none.word, none.most))
        self.check_same((1, (((0, 0),),)), least_pieces(DEAL, 1).parts)
        self.check_same((1, (), ()), least_pieces(Deal(NO_HANDS, Bounds.zero(2)), 10 ** 30).parts)

    def test_least_pieces_by_trying(self):
        kinds = []
        for deal in random_deals(521, 150, 3, leanings=False):
            most = 6
            tried = [pieced(deal, pieces) for pieces in range(1, most + 1)]
            first = next((place for place, one in enumerate(tried) if one), None)
            found = least_pieces(deal=deal, most=most)
            kinds.append(found.parts[0] if found else None)
            if first is None:
                self.check_same((most, tuple(one.reached for one in tried)), found.parts)
            else:
                denials = tuple(one.reached for one in tried[:first])
                self.check_same((first + 1, tried[first].order, denials), found.parts)
        self.assertTrue({None, 1, 2} <= set(kinds), set(kinds))
        even = Swap(["a", "b"], [HandOver("a", "b", 2, 2), HandOver("b", "a", 2, 2)])
        found = least_pieces(Deal(even, Bounds([Ratio(2, 5), 0], [0, Ratio(2, 5)])), 63)
        self.check_same((5, (0, 1) * 5, (((0, 0),),) * 4), found.parts)

    def test_each_multiple_does(self):
        for deal in random_deals(522, 100, 2, leanings=False):
            does = [bool(pieced(deal, pieces)) for pieces in range(1, 13)]
            for pieces in range(1, 13):
                if does[pieces - 1]:
                    self.assertTrue(all(does[more - 1] for more in range(pieces, 13, pieces)))

    def test_fewest_pieces(self):
        found = fewest_pieces(DEAL, 2)
        self.assertIs(FewestPieces, type(found))
        self.check_same(((1, 2), (1, 0, 1), (((1, 1), ((0, 0),)),)), found.parts)
        self.check_same((True, "fewestpieces", (1, 2), (1, 0, 1)), (bool(found), found.word, found.counts, found.order))
        self.check_same((((1, 1), ((0, 0),)),), found.denials)
        none = fewest_pieces(NEVER, 1)
        self.assertIs(NoFewest, type(none))
        self.check_same((1, (((1, 1), ((0, 0),)), ((1, 2), ((0, 0),)), ((2, 1), ((0, 0),)))), none.parts)
        self.check_same((False, "nofewest", 1), (bool(none), none.word, none.extra))
        self.check_same((0, (((1, 1), ((0, 0),)),)), fewest_pieces(DEAL, 0).parts)
        self.check_same(((), (), ()), fewest_pieces(Deal(NO_HANDS, Bounds.zero(2)), 4).parts)

    def test_fewest_pieces_by_trying(self):
        rnd = random.Random(523)
        kinds = []
        for deal in random_deals(524, 80, 3, leanings=False):
            extra = rnd.randrange(5)
            ordered = [counts for counts in itertools.product(range(1, 6), repeat=len(deal)) if sum(counts) <= len(deal) + extra]
            denials = []
            for counts in sorted(ordered, key=lambda one: (sum(one), one)):
                paper = pieced(deal, counts)
                if paper:
                    break
                denials.append((counts, paper.reached))
            found = fewest_pieces(deal=deal, extra=extra)
            kinds.append(type(found))
            if paper:
                self.check_same((counts, paper.order, tuple(denials)), found.parts)
            else:
                self.check_same((extra, tuple(denials)), found.parts)
        self.assertEqual({FewestPieces, NoFewest}, set(kinds))

    def test_6_hand_overs(self):
        deal = Deal(Swap(CUP.strangers, CUP.hands * 3), Bounds.alike(2, 1, 1))
        found = fewest_pieces(deal, 4)
        self.assertEqual(1 + 6 + 21 + 56 + 126 if not found else len(found.denials), len(found.denials))
        self.assertEqual(210, len(fewest_pieces(Deal(deal.swap, Bounds.zero(2)), 4).denials))


class EnoughTest(Case):
    def test_papers(self):
        found = enough_pieces(DEAL)
        self.assertIs(EnoughPieces, type(found))
        self.check_same((True, "enoughpieces", (3,), 3), (bool(found), found.word, found.parts, found.pieces))
        tight = enough_pieces(NEVER)
        self.assertIs(Tight, type(tight))
        self.check_same((False, "tight", ("ann", "drawn"), "ann", "drawn"), (bool(tight), tight.word, tight.parts, tight.name, tight.side))

    def test_the_first_bound_of_0_of_which_more_is_asked(self):
        for trusts, pledges, parts in [
            ((0, 0), (0, 0), ("ann", "drawn")), ((1, 0), (0, 0), ("ann", "leaves")), ((1, 0), (1, 0), ("bob", "drawn")),
            ((None, 1), (None, 0), ("bob", "leaves")),
        ]:
            self.check_same(parts, enough_pieces(Deal(CUP, Bounds(trusts, pledges))).parts)
        # Nothing is asked of a wide bound, nor of one whose stranger gives and takes nothing.
        self.check_same((1,), enough_pieces(Deal(CUP, Bounds.alike(2, None, None))).parts)
        idle = Swap.read("a b c | a b 2 3 | b a 2 3")
        self.check_same((3,), enough_pieces(Deal(idle, Bounds([1, 1, 0], [1, 1, 0]))).parts)

    def test_a_rank_of_0_and_no_hand_over(self):
        gifts = Swap.read("a b | a b 0 3 | a b 0 3")
        self.check_same((1,), enough_pieces(Deal(gifts, Bounds.zero(2))).parts)
        self.check_same((1,), enough_pieces(Deal(NO_HANDS, Bounds.zero(2))).parts)

    def test_by_the_rank_and_the_greatest(self):
        rnd = random.Random(525)
        seen = []
        for _ in range(200):
            swap = random_swap(rnd, rnd.choice([2, 3]), rnd.randrange(4), gainful=True)
            if not swap.is_gainful:
                continue
            deal = Deal(swap, Bounds([random_bound(rnd) for _ in swap.strangers], [random_bound(rnd) for _ in swap.strangers]))
            number, least, tight = rank(swap).number, 1, None
            for place, name in enumerate(swap.strangers):
                costs = [as_fraction(hand.cost) for hand in swap if hand.giver == name]
                gains = [as_fraction(hand.gain) for hand in swap if hand.taker == name]
                for side, bound, told_of in (("drawn", deal.bounds.trusts[place], costs), ("leaves", deal.bounds.pledges[place], gains)):
                    asked = number * max(told_of, default=0)
                    if bound is not None and asked > 0:
                        if as_fraction(bound) == 0:
                            tight = tight or (name, side)
                        else:
                            while least * as_fraction(bound) < asked:
                                least += 1
            found = enough_pieces(deal)
            seen.append(type(found))
            self.check_same(tight or (least,), found.parts)
            if found and (least + 1) ** len(swap) <= 4096:
                self.assertTrue(pieced(deal, least))
        self.assertGreater(seen.count(Tight), 10)
        self.assertGreater(seen.count(EnoughPieces), 20)

    def test_great_numbers(self):
        swap = Swap(["a", "b"], [HandOver("a", "b", 10 ** 29, 10 ** 29), HandOver("b", "a", 10 ** 29, 10 ** 29)])
        self.check_same((10 ** 58 + 10 ** 29,), enough_pieces(Deal(swap, Bounds.alike(2, Ratio(10 ** 29, 10 ** 29 + 1) * Ratio(1, 10 ** 29), 1))).parts)


if __name__ == "__main__":
    unittest.main()
