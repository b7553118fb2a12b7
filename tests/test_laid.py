"""Laid pledges: deals with them, shifted deals, spans, least laid amounts."""

import itertools
import random
import unittest

from lastgiver.bounds import Bounds
from lastgiver.check_hands import shows_least_laid
from lastgiver.deals import Deal
from lastgiver.errors import BadDeal, BadKeeper, BadLaid, BadRow, Below, NoStranger, TooMany, Twice
from lastgiver.laid import LeastLaid, NeverLaid, laid, least_laid, shifted, span
from lastgiver.ratios import Ratio
from lastgiver.rows import find_row
from lastgiver.swaps import HandOver, Swap
from lastgiver.walked import RowWalk

from support import (
    CUP, NO_AMOUNTS, NO_DEALS, NO_HANDS, NO_NAMES, NO_ROWS, Case, all_sets, as_fraction, plain_allowed, plain_good_rows,
    plain_reached, plain_sums, random_deals, random_ratio, random_swap,
)
from support_ways import NO_BEGINNING

BEAR = Deal(CUP, Bounds.alike(2, 2, 0))
NAMES = ("a", "b", "c", "d", "e", "f")
NO_DICTS = [
    None, True, 1.5, "", b"", set(), object(), int, 3, [], (), [("ann", 1)], CUP, {1: 2}, {"zed": 1}, {"ann": 1, "kin": 0}, {None: 0},
    {("ann",): 0}, {"": 1}, *[{"bob": value} for value in NO_AMOUNTS],
]


def line_of(many, strangers=2):
    """A swap of so many hand-overs among the first of the names."""
    return Swap(NAMES[:strangers], [HandOver("a", "b", 1, 1), HandOver("b", "a", 1, 1)] * (many // 2) + [HandOver("a", "b", 1, 1)] * (many % 2))


def ratio(fraction):
    """The Ratio of a Fraction."""
    return Ratio(*fraction.as_integer_ratio())


def trusting_deal(rnd):
    """A deal of strangers who trust, but pledge little."""
    swap = random_swap(rnd, 2, rnd.randrange(1, 5), gainful=True)
    trusts = [rnd.choice([3, 6, None]) for _ in swap.strangers]
    return Deal(swap, Bounds(trusts, [(-net if net.sign < 0 else net * 0) + rnd.choice([0, 0, Ratio(1, 2)]) for net in swap.nets]))


def random_amounts(rnd, deal):
    """Amounts of some strangers."""
    return {name: random_ratio(rnd, 3) for name in rnd.sample(deal.swap.strangers, len(deal.swap.strangers)) if rnd.random() < 0.7}


class LaidTest(Case):
    def test_wrong_values(self):
        self.check_each_raises(BadDeal("deal"), NO_DEALS, lambda value: laid(value, None, None))
        self.check_each_raises(BadKeeper("keeper"), NO_NAMES, lambda value: laid(BEAR, value, None))
        self.check_each_raises(BadLaid("amounts"), NO_DICTS, lambda value: laid(BEAR, "ann", value))
        self.check_raises(Twice("bob"), laid, deal=BEAR, keeper="bob", amounts={})
        self.check_raises(Twice("a"), laid, Deal(line_of(40, 6), Bounds.zero(6)), "a", {"a": 1})

    def test_six_strangers_with_one_more(self):
        five = Deal(line_of(2, 5), Bounds.alike(5, 2, 2))
        self.check_same(6, len(laid(five, "kin", {"a": 1}).swap.strangers))
        six = Deal(line_of(2, 6), Bounds.alike(6, 2, 2))
        for amounts in ({}, {"a": 0}, {"a": 1}):
            self.check_raises(TooMany("strangers", 6), laid, six, "kin", amounts)
        self.check_raises(TooMany("strangers", 6), laid, Deal(line_of(40, 6), Bounds.zero(6)), "kin", {"a": 1})

    def test_40_hand_overs_with_one_more(self):
        for many, amounts, fits in [
            (38, {"a": 1}, True), (39, {"a": 1}, False), (40, {"a": 0}, True), (40, {}, True), (40, {"b": Ratio(1, 9)}, False),
            (36, {"b": 1, "a": 1}, True), (37, {"b": 1, "a": 1}, False),
        ]:
            deal = Deal(line_of(many), Bounds.alike(2, 9, 9))
            if fits:
                self.assertEqual(many + 2 * len([one for one in amounts.values() if one]), len(laid(deal, "kin", amounts)))
            else:
                self.check_raises(TooMany("hands", 40), laid, deal, "kin", amounts)

    def test_deals(self):
        found = laid(Deal(CUP, Bounds([1, None], [None, Ratio(1, 2)]), [(1, 0)]), "kin", {"bob": Ratio(3, 2), "ann": 1})
        hands = "ann bob 2 3 | bob ann 2 3 | ann kin 1 0 | bob kin 3/2 0 | kin ann 0 1 | kin bob 0 3/2"
        pairs = "0 4 , 0 5 , 1 0 , 1 4 , 1 5 , 2 0 , 2 1 , 2 3 , 2 4 , 2 5 , 3 0 , 3 1 , 3 4 , 3 5 , 4 5"
        self.assertEqual(f"ann bob kin | {hands} ; 1 wide , wide 1/2 , 0 0 ; {pairs}", str(found))
        found = laid(BEAR, "kin", {"bob": 2})
        self.assertEqual("ann bob kin | ann bob 2 3 | bob ann 2 3 | bob kin 2 0 | kin bob 0 2", str(found.swap))
        self.check_same((2, 0, 1, 3), find_row(found).row)

    def test_amounts_of_0_and_left_out(self):
        for amounts in ({}, {"ann": 0}, {"bob": Ratio(0), "ann": 0}):
            found = laid(BEAR, "kin", amounts)
            self.assertEqual(("ann bob kin | ann bob 2 3 | bob ann 2 3 ; 2 0 , 2 0 , 0 0"), str(found))
        self.assertEqual("ann bob kin ; 0 0 , 0 0 , 0 0", str(laid(Deal(NO_HANDS, Bounds.zero(2)), "kin", {})))

    def test_what_is_passed_stays_as_it_was(self):
        amounts = {"bob": 2}
        laid(BEAR, "kin", amounts)
        shifted(BEAR, amounts)
        self.assertEqual({"bob": 2}, amounts)
        self.assertEqual("ann bob | ann bob 2 3 | bob ann 2 3 ; 2 0 , 2 0", str(BEAR))

    def test_good_rows_are_those_of_the_shifted_deal(self):
        rnd = random.Random(911)
        kinds = set()
        for deal in random_deals(912, 140, 3):
            amounts = random_amounts(rnd, deal)
            if len(deal) + 2 * sum(amount.sign for amount in amounts.values()) > 6:
                continue
            found = laid(deal, "kin", amounts)
            above = [name for name, amount in amounts.items() if dict(zip(deal.swap.strangers, deal.bounds.trusts))[name] is not None
                     and as_fraction(amount) > as_fraction(dict(zip(deal.swap.strangers, deal.bounds.trusts))[name])]
            many = len([amount for amount in amounts.values() if amount])
            over = tuple(range(len(deal), len(deal) + many))
            back = tuple(range(len(deal) + many, len(deal) + 2 * many))
            inner = [] if above or not plain_allowed(deal, ()) else plain_good_rows(shifted(deal, amounts))
            kinds.add((bool(above), bool(inner)))
            self.assertEqual([(*over, *row, *back) for row in inner], plain_good_rows(found))
        self.assertEqual({(False, False), (False, True), (True, False)}, kinds)


class ShiftedTest(Case):
    def test_wrong_values(self):
        self.check_each_raises(BadDeal("deal"), NO_DEALS, lambda value: shifted(value, None))
        self.check_each_raises(BadLaid("amounts"), NO_DICTS, lambda value: shifted(BEAR, value))
        self.check_raises(Below("bob", "drawn", Ratio(1, 2)), shifted, deal=BEAR, amounts={"bob": Ratio(5, 2), "ann": 2})
        self.check_raises(Below("ann", "drawn", Ratio(1)), shifted, BEAR, {"bob": 7, "ann": 3})

    def test_amounts(self):
        deal = Deal(CUP, Bounds([2, None], [None, Ratio(1, 2)]), [(1, 0)])
        self.assertEqual("0 wide , wide 1/2", str(shifted(deal, {"ann": 2}).bounds))
        self.assertEqual("2 wide , wide 201/2", str(shifted(deal, {"bob": 100}).bounds))
        self.assertEqual("1/2 wide , wide 3/2", str(shifted(deal, {"bob": 1, "ann": Ratio(3, 2)}).bounds))
        self.assertEqual(deal, shifted(deal, {}))
        self.assertEqual(deal, shifted(deal, {"ann": 0}))
        self.assertEqual(((1, 0),), shifted(deal, {"ann": 1}).leanings.pairs)


class SpanTest(Case):
    def test_wrong_values(self):
        self.check_each_raises(BadDeal("deal"), NO_DEALS, lambda value: span(value, None, None))
        self.check_each_raises(BadRow("row"), NO_ROWS, lambda value: span(BEAR, value, None))
        for value in [*NO_NAMES, "zed"]:
            with self.assertRaises(NoStranger) as caught:
                span(deal=BEAR, row=[1, 0], name=value)
            self.assertIs(value, caught.exception.name)

    def test_spans_are_what_is_needed(self):
        self.check_same((Ratio(2), Ratio(2)), (span(BEAR, (0, 1), "bob"), span(BEAR, [0, 1], "ann")))
        self.check_same(Ratio(0), span(Deal(NO_HANDS, Bounds.zero(2)), (), "ann"))
        for deal in random_deals(913, 60, 4):
            for row in itertools.permutations(range(len(deal))):
                needs = RowWalk(deal, row).needs
                for place, name in enumerate(deal.swap.strangers):
                    sums = [plain_sums(deal.swap, row[:k])[place] for k in range(len(row) + 1)]
                    told = max(sums) - min(sums) - sums[-1]
                    self.check_same(ratio(told), span(deal, row, name))
                    if min(sums) <= 0 and max(sums) >= sums[-1]:
                        self.check_same(needs.trusts[place] + needs.pledges[place], span(deal, row, name))

    def test_some_amounts_make_a_row_good(self):
        rnd = random.Random(914)
        kinds = set()
        for deal in random_deals(915, 60, 3):
            nets = plain_sums(deal.swap, range(len(deal)))
            for row in itertools.permutations(range(len(deal))):
                if any(deal.broken(row[:k]) for k in range(len(row) + 1)):
                    continue
                told = plain_allowed(deal, ())
                amounts = {}
                for place, name in enumerate(deal.swap.strangers):
                    trust, pledge = deal.bounds.trusts[place], deal.bounds.pledges[place]
                    sums = [plain_sums(deal.swap, row[:k])[place] for k in range(len(row) + 1)]
                    if pledge is not None and nets[place] + as_fraction(pledge) < 0:
                        told = False
                    if trust is not None and min(sums) < -as_fraction(trust):
                        told = False
                    if None not in (trust, pledge) and span(deal, row, name).compared(trust + pledge) > 0:
                        told = False
                    # The least that keeps it from leaving: if any amount does, this one.
                    above = [total - nets[place] - as_fraction(pledge) for total in sums] if pledge is not None else []
                    amounts[name] = ratio(max([0 * nets[place], *above]))
                fits = plain_allowed(deal, ()) and all(
                    trust is None or as_fraction(amounts[name]) <= as_fraction(trust)
                    for name, trust in zip(deal.swap.strangers, deal.bounds.trusts)
                )
                does = fits and RowWalk(shifted(deal, amounts), row).is_good
                kinds.add(does)
                self.assertIs(told, does)
                if not does:
                    for _ in range(3):
                        other = {name: random_ratio(rnd) for name in amounts}
                        try:
                            self.assertFalse(plain_allowed(deal, ()) and RowWalk(shifted(deal, other), row).is_good)
                        except Below:
                            pass
        self.assertEqual({True, False}, kinds)


class LeastLaidTest(Case):
    def test_wrong_values(self):
        self.check_each_raises(BadDeal("deal"), NO_DEALS, lambda value: least_laid(value, None))
        long = Deal(line_of(40), Bounds.zero(2))
        for value in [*NO_NAMES, "zed"]:
            with self.assertRaises(NoStranger) as caught:
                least_laid(deal=long, name=value)
            self.assertIs(value, caught.exception.name)

    def test_6_hand_overs_and_7(self):
        self.assertTrue(least_laid(Deal(line_of(6), Bounds.alike(2, 3, 3)), "a"))
        for many in (7, 40):
            self.check_raises(TooMany("hands", 6), least_laid, Deal(line_of(many), Bounds.alike(2, 3, 3)), "a")

    def test_classes(self):
        found = least_laid(BEAR, "bob")
        self.check_same((LeastLaid, "leastlaid", True, Ratio(2)), (type(found), found.word, bool(found), found.number))
        self.check_same(((0, 1), ((Ratio(0), ((),)),)), (found.row, found.closed))
        found = least_laid(Deal(CUP, Bounds.alike(2, 1, 0)), "bob")
        self.check_same((NeverLaid, "neverlaid", False), (type(found), found.word, bool(found)))
        self.check_same(((Ratio(0), ((),)),), found.closed)

    def test_edges(self):
        self.check_same((Ratio(0), (), ()), least_laid(Deal(NO_HANDS, Bounds.zero(2)), "bob").parts)
        self.assertEqual(NeverLaid(()), least_laid(NO_BEGINNING, "bob"))
        self.check_same((), least_laid(NO_BEGINNING, "bob").closed)
        self.check_same((), least_laid(NO_BEGINNING, "ann").closed)
        wide = Deal(CUP, Bounds([2, 2], [0, None]))
        self.check_same((Ratio(0), (0, 1), ()), least_laid(wide, "bob").parts)
        self.check_same((Ratio(0), (0, 1), ()), least_laid(wide, "ann").parts)
        wide = Deal(CUP, Bounds([2, None], [0, 0]))
        self.check_same((Ratio(2), (0, 1), ((Ratio(0), ((),)),)), least_laid(wide, "bob").parts)

    def test_by_trying_all_amounts(self):
        rnd = random.Random(916)
        kinds = []
        deals = random_deals(917, 90, 4)
        deals += [trusting_deal(rnd) for _ in range(60)]
        for deal in deals:
            nets = plain_sums(deal.swap, range(len(deal)))
            for place, name in enumerate(deal.swap.strangers):
                trust, pledge = deal.bounds.trusts[place], deal.bounds.pledges[place]
                told = {0 * nets[place]}
                if pledge is not None:
                    told |= {plain_sums(deal.swap, done)[place] - nets[place] - as_fraction(pledge) for done in all_sets(len(deal))}
                told = sorted(one for one in told if one >= 0 and (trust is None or one <= as_fraction(trust)))
                told = told if plain_allowed(deal, ()) else []
                found = least_laid(deal, name)
                closed = []
                for amount in map(ratio, told):
                    rows = plain_good_rows(shifted(deal, {name: amount}))
                    if rows:
                        self.check_same((amount, rows[0], tuple(closed)), found.parts)
                        kinds.append("none" if not closed else "some")
                        break
                    closed.append((amount, tuple(plain_reached(shifted(deal, {name: amount})))))
                else:
                    kinds.append("never")
                    self.check_same((tuple(closed),), found.parts)
                self.assertIs(True, shows_least_laid(deal, name, found))
                self.assertEqual(found, least_laid(deal, name))
        for kind in ("none", "some", "never"):
            self.assertGreater(kinds.count(kind), 10, kind)

    def test_no_lesser_amount_does_tried_or_not(self):
        tried = 0
        rnd = random.Random(918)
        for deal in [trusting_deal(rnd) for _ in range(90)]:
            for name in deal.swap.strangers:
                found = least_laid(deal, name)
                if found and found.number.sign > 0:
                    tried += 1
                    for part in (Ratio(0), Ratio(1, 2), Ratio(99, 100)):
                        lesser = found.number * part
                        self.assertFalse(find_row(laid(deal, "kin", {name: lesser})))
                    self.assertTrue(find_row(laid(deal, "kin", {name: found.number})))
        self.assertGreater(tried, 10)


if __name__ == "__main__":
    unittest.main()
