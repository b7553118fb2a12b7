"""Deals: what is allowed in them, and their texts."""

import itertools
import unittest

from lastgiver.bounds import Bounds
from lastgiver.deals import Deal, Objection, allowed_sets
from lastgiver.errors import (
    BadBounds, BadDeal, BadDone, BadLeanings, BadSwap, BadText, Done, NoHand, Ring, TooMany, Twice, Unlike,
)
from lastgiver.leanings import Leanings
from lastgiver.ratios import Ratio
from lastgiver.sums import sums
from lastgiver.swaps import Swap

from support import (
    CUP, NO_DEALS, NO_DONE, NO_HANDS, NO_LISTS, NO_NUMBERS, Case, all_sets, as_fraction, plain_allowed, plain_broken,
    plain_objections, random_deals,
)

FOUR = CUP + CUP
ZERO = Bounds.zero(2)
TIGHT = Deal(CUP, Bounds.alike(2, 1, 1))
WIDE = Deal(FOUR, Bounds.alike(2, None, None), [(0, 1), (2, 3)])
NO_PAIRS = [*NO_LISTS, [1], (None,), [[0]], [(0, 1, 2)], ["01"], ZERO]


class ObjectionsTest(Case):
    def test_any_fields(self):
        for told in [("ann", "drawn", 1), (None, [1], 1.5), (3, True, Ratio(1, 2))]:
            for objection in (Objection(*told), Objection(**dict(zip(("name", "side", "amount"), told)))):
                self.check_same(list(told), [objection.name, objection.side, objection.amount])
        self.assertEqual("None [1] 1.5", str(Objection(None, [1], 1.5)))
        self.assertEqual("ann leaves 3/2", str(Objection("ann", "leaves", Ratio(3, 2))))

    def test_equality(self):
        others = [("bob", "drawn", 1), ("ann", "leaves", 1), ("ann", "drawn", 2)]
        self.check_equality(lambda: Objection("ann", "drawn", Ratio(1)), [Objection(*told) for told in others])
        self.assertTrue(Objection("ann", "drawn", 1) == Objection("ann", "drawn", Ratio(1)))


class DealsTest(Case):
    def test_attributes(self):
        deal = Deal(CUP, ZERO, [[1, 0]])
        self.assertEqual((CUP, ZERO, Leanings(2, [(1, 0)]), 2), (deal.swap, deal.bounds, deal.leanings, len(deal)))
        self.assertEqual(deal, Deal(leanings=Leanings(2, [(1, 0)]), bounds=ZERO, swap=CUP))
        self.assertEqual(Leanings(2, []), Deal(CUP, ZERO).leanings)
        self.assertIs(Leanings, type(Deal(CUP, ZERO, ()).leanings))

    def test_wrong_parts(self):
        self.check_each_raises(BadSwap("swap"), [value for value in NO_DEALS if value is not CUP], lambda value: Deal(value, None, None))
        self.check_each_raises(BadBounds("bounds"), [*NO_NUMBERS, CUP, ([0, 0], [0, 0])], lambda value: Deal(CUP, value, None))
        self.check_each_raises(BadLeanings("leanings"), NO_PAIRS, lambda value: Deal(CUP, Bounds.zero(3), value))
        for value in [*NO_NUMBERS, -1, 2]:
            self.check_raises(NoHand(value), Deal, CUP, Bounds.zero(3), [(0, 1), (0, value), (0, 0)])
        self.check_raises(Ring(0, (0, 1)), Deal, CUP, Bounds.zero(3), [(0, 1), (1, 0)])
        for many in (3, 6):
            self.check_raises(Unlike("bounds"), Deal, CUP, Bounds.zero(many), Leanings(3, []))
        for many in (0, 1, 3, 40):
            self.check_raises(Unlike("leanings"), Deal, CUP, ZERO, Leanings(many, []))

    def test_with_bounds(self):
        deal = Deal(CUP, ZERO, [(1, 0)])
        self.assertEqual(Deal(CUP, Bounds.alike(2, 3, None), [(1, 0)]), deal.with_bounds(bounds=Bounds.alike(2, 3, None)))
        self.check_each_raises(BadBounds("bounds"), [*NO_NUMBERS, CUP, deal], deal.with_bounds)
        self.check_raises(Unlike("bounds"), deal.with_bounds, Bounds.zero(3))
        self.assertEqual(ZERO, deal.bounds)

    def test_equality(self):
        swap = Swap(("ann", "bob"), CUP.hands)
        self.check_equality(lambda: Deal(swap, Bounds.zero(2), [(0, 1)]), [
            Deal(FOUR, ZERO, [(0, 1)]), Deal(CUP, Bounds.alike(2, 0, 1), [(0, 1)]), Deal(CUP, ZERO), Deal(CUP, ZERO, [(1, 0)]), CUP,
        ])

    def test_wrong_done_sets(self):
        deal = TIGHT
        for work in (deal.is_allowed, deal.objections, deal.broken, deal.moves, lambda done: deal.against(done, None)):
            self.check_each_raises(BadDone("done"), NO_DONE, work)
            self.check_raises(NoHand(2), work, [1, 1, 2])
            self.check_raises(Twice(1), work, [1, 1])

    def test_wrong_hand_overs(self):
        for value in [*NO_NUMBERS, -1, 2]:
            self.check_raises(NoHand(value), TIGHT.against, [0], value)
        self.check_raises(Done(0), TIGHT.against, [1, 0], 0)

    def test_objections(self):
        deal = Deal(Swap.read("a b c | a b 2 3 | b c 1 1/2"), Bounds([1, 0, 0], [0, Ratio(1, 2), None]))
        self.assertEqual((Objection("a", "leaves", Ratio(2)),), deal.objections(done=()))
        self.check_same(["a", "drawn", Ratio(1)], list(vars(deal.objections([0])[0]).values()))
        self.assertEqual(["a drawn 1", "b leaves 1/2"], [str(told) for told in deal.objections([0])])
        self.assertEqual(["a leaves 2", "b drawn 1"], [str(told) for told in deal.objections([1])])
        self.assertEqual(["a drawn 1"], [str(told) for told in deal.objections([1, 0])])

    def test_one_stranger_can_object_on_both_sides(self):
        deal = Deal(Swap.read("a b | a b 1 0 | a b 4 0"), ZERO)
        self.assertEqual(["a drawn 1", "a leaves 4"], [str(told) for told in deal.objections([0])])

    def test_a_wide_bound_is_never_passed(self):
        for done in all_sets(4):
            self.assertEqual((), WIDE.objections(done))

    def test_what_is_allowed_by_trying_all(self):
        for deal in random_deals(11, 40):
            for done in all_sets(len(deal)):
                passed = list(done[::-1])
                self.assertIs(plain_allowed(deal, done), deal.is_allowed(passed))
                self.assertEqual(list(done[::-1]), passed)
                self.check_same(tuple(plain_broken(deal, done)), deal.broken(done))
                found = [(told.name, told.side, as_fraction(told.amount)) for told in deal.objections(done)]
                self.assertEqual(plain_objections(deal, done), found)
                self.assertEqual({Ratio}, {Ratio} | {type(told.amount) for told in deal.objections(done)})
                self.check_against_and_moves(deal, done)

    def check_against_and_moves(self, deal, done):
        """What stands against each hand-over more is what the set with it has against it."""
        others = [number for number in range(len(deal)) if number not in done]
        for number in others:
            behind = sorted((*done, number))
            broken = plain_broken(deal, behind)
            wanted = (("leaning", broken[0][0]),) if broken else deal.objections(behind)
            self.assertEqual(wanted, deal.against(done, number))
        moves = tuple(number for number in others if plain_allowed(deal, sorted((*done, number))))
        self.check_same(moves, deal.moves(done))

    def test_against(self):
        self.check_same((("leaning", 2),), WIDE.against([0], 3))
        self.check_same((("leaning", 0),), WIDE.against(done=[1], number=3))
        self.assertEqual(((), ()), (WIDE.against([3], 2), WIDE.against([0], number=1)))
        self.assertEqual(["ann leaves 1", "bob drawn 1"], [str(told) for told in TIGHT.against([], 1)])

    def test_moves_behind_a_set_that_breaks_a_leaning(self):
        self.check_same([(0,), (2,), ()], [WIDE.moves([1]), WIDE.moves(done=[0, 1, 3]), WIDE.moves([1, 3])])
        self.check_same([(0, 2), ()], [WIDE.moves([]), WIDE.moves([0, 1, 2, 3])])

    def test_at_an_allowed_set_only_giver_and_taker_of_one_more_can_object(self):
        for deal in random_deals(12, 60):
            for done in allowed_sets(deal):
                for number in range(len(deal)):
                    if number not in done and not plain_broken(deal, (*done, number)):
                        hand = deal.swap[number]
                        able = [(hand.giver, "drawn"), (hand.taker, "leaves")]
                        for told in deal.against(done, number):
                            self.assertIn((told.name, told.side), able)

    def test_allowed_sets(self):
        for deal in random_deals(13, 30, 6):
            found = allowed_sets(deal)
            self.check_same([done for done in all_sets(len(deal)) if plain_allowed(deal, done)], found)
            found.append(None)
            found[0:1] = []
            self.assertNotIn(None, allowed_sets(deal=deal))
        self.assertEqual([()], allowed_sets(Deal(NO_HANDS, ZERO)))

    def test_allowed_sets_of_12_and_13(self):
        wide = Bounds.alike(2, None, None)
        self.assertEqual(all_sets(12), allowed_sets(Deal(Swap(CUP.strangers, [CUP[0]] * 12), wide)))
        self.check_raises(TooMany("hands", 12), allowed_sets, Deal(Swap(CUP.strangers, [CUP[0]] * 13), wide))
        self.check_each_raises(BadDeal("deal"), NO_DEALS, allowed_sets)

    def test_sums_at_a_set_and_at_the_rest_of_it_add_up_to_the_nets(self):
        for deal in random_deals(14, 10):
            for done in all_sets(len(deal)):
                others = [number for number in range(len(deal)) if number not in done]
                both = [told + other for told, other in zip(told_sums(deal, done), told_sums(deal, others))]
                self.assertEqual([as_fraction(net) for net in deal.swap.nets], both)


def told_sums(deal, done):
    """The sums at a done set, as the package tells them, as Fractions."""
    return [as_fraction(ratio) for ratio in sums(deal.swap, done)]


class TextsTest(Case):
    def test_texts(self):
        for text in [
            "a b ; 0 0 , 0 0", "a b | a b 1 1 ; wide 1/2 , 3 0", "a b c ; 0 0 , 1 1 , 2 wide",
            "a b | a b 1 1 | a b 1 1 ; 0 0 , 0 0 ; 1 0", "a b | a b 1 1 | a b 1 1 | b a 0 0 ; 0 0 , 0 0 ; 0 1 , 0 2 , 2 1",
        ]:
            self.check_read(Deal, text)
        for deal in random_deals(15, 30):
            self.assertEqual(deal, Deal.read(str(deal)))

    def test_texts_of_parts_that_cannot_be_read(self):
        for text, word in [
            ("", 0), ("a", 1), ("a ;", 1), ("a b", 2), ("a b ", 2), ("a b ;", 3), ("a b ; ", 3), ("a b ; 1", 4), ("a b ; 1 2", 5),
            ("a b ; 1 2 ;", 5), ("a b ; 1 2 ,", 6), ("a b ; 1 2 , 3", 7), ("a b ; 1 2 , 3 4 ", 8), ("a b ; 1 2 , 3 4 ,", 8),
            ("a b ; 1 2 , 3 4 , 5 6", 8), ("a b c ; 1 2 , 3 4", 9), ("a b c ; 1 2 , 3 4 ;", 9), ("a b | a b 1 1 |", 8),
            ("a b | a b 1 1 0 0 , 0 0", 7), ("a b | a c 1 1 ; 0 0 , 0 0", 4), ("a b ; 1 -2 , 3 4", 4), ("a b , 1 2 , 3 4", 2),
            ("a b |", 3), ("a b | ; 0 0 , 0 0", 3), ("; 0 0 , 0 0", 0),
        ]:
            self.check_raises(BadText(0, word), Deal.read, text)
        for value in [None, 3, True, b"a b ; 0 0 , 0 0", ["a b"], TIGHT]:
            self.check_raises(BadText(0, 0), Deal.read, value)

    def test_pairs_that_cannot_be_read(self):
        start = "a b | a b 1 1 | a b 1 1 | b a 1 1 ; 0 0 , 0 0"
        at = len(start.split(" "))
        for text, word in [
            (" ;", 1), (" ; ", 1), (" ; 0", 2), (" ; 0 ", 2), (" ; 3 0", 1), (" ; -1 0", 1), (" ; 00 1", 1), (" ; 0 3", 2), (" ; 0 0", 2),
            (" ; 0 -0", 2), (" ; 0 1/2", 2), (" ; 0 1 ", 3), (" ; 0 1 ;", 3), (" ; 0 1 0 2", 3), (" ; 0 1 ,", 4), (" ; 0 1 , 0", 5),
            (" ; 0 1 , 0 1", 5), (" ; 0 2 , 0 1", 5), (" ; 1 0 , 0 1", 4), (" ; 0 1 , 1 0", 5), (" ; 0 1 , 1 2 , 2 0", 8),
            (" ; 0 1 , 1 2 , 2 1", 8), (" ; 0 1 , 1 1", 5), (" ; 1 2 , 2 0 , 2 1", 8), (" ; 2 1 , 2 0", 5), (" ; x", 1), (" ,", 0),
            (" ; 2 0 , 2", 5), (" ; 2 1 , 2 2", 5), (" ; 0 " + "9" * 61, 2), (" ; 0 2 , 1 2 , 2 0", 8),
        ]:
            self.check_raises(BadText(0, at + word), Deal.read, start + text)

    def test_pairs_by_trying_all(self):
        start = "a b | a b 1 1 | a b 1 1 | b a 1 1 ; 0 0 , 0 0 ; "
        pairs = list(itertools.permutations(range(3), 2))
        for told in itertools.product(pairs, repeat=3):
            text = start + " , ".join(f"{e} {f}" for e, f in told)
            try:
                wanted = list(told) == sorted(set(told)) and Leanings(3, told) is not None
            except Ring:
                wanted = False
            try:
                self.assertEqual(text, str(Deal.read(text)))
                found = True
            except BadText:
                found = False
            self.assertEqual(wanted, found, told)

    def test_pairs_of_a_deal_with_fewer_than_two_hand_overs(self):
        self.check_raises(BadText(0, 9), Deal.read, "a b ; 0 0 , 0 0 ; 0 1")
        self.check_raises(BadText(0, 9), Deal.read, "a b ; 0 0 , 0 0 ;")
        self.check_raises(BadText(0, 15), Deal.read, "a b | a b 1 1 ; 0 0 , 0 0 ; 0 0")


if __name__ == "__main__":
    unittest.main()
