"""Dials: their weights, their texts, what done sets need of them."""

import random
import unittest

from lastgiver.bounds import Bounds
from lastgiver.deals import Deal
from lastgiver.dials import Dial
from lastgiver.errors import BadDeal, BadDial, BadDone, BadNumber, BadSwap, BadText, Loser, NoHand, NoStranger, Twice
from lastgiver.ratios import Ratio
from lastgiver.swaps import Swap

from support import (
    CUP, NO_AMOUNTS, NO_DEALS, NO_DONE, NO_HANDS, NO_NAMES, NO_SWAPS, ODD, Case, all_sets, as_fraction, plain_allowed,
    plain_broken, plain_objections, plain_sums, random_deals, random_dial,
)

BARE = Deal(CUP, Bounds.zero(2))
NO_WEIGHTS = [
    *[value for value in ODD if value != {}], [], (), [("ann", 1)], 3, {"ann": -1}, {"ann": None}, {"ann": True}, {"ann": 1.0}, {"Ann": 1},
    {3: 1}, {"ann": 1, None: 1}, {"ann bob": 1}, {"": 1}, {"ann": "1"}, {"ann": Ratio(-1, 9)}, {"ann": 1, "bob": [1]}, {("ann",): 1},
]


def plain_need(swap, trusts, pledges, done):
    """What the bounds on a dial, dicts of weights, need for a done set."""
    told = []
    nets = plain_sums(swap, range(len(swap)))
    for name, total, net in zip(swap.strangers, plain_sums(swap, done), nets):
        for side, weights, amount in (("drawn", trusts, -total), ("leaves", pledges, total - net)):
            if name in weights and amount > 0:
                weight = as_fraction(weights[name])
                told.append((None if weight == 0 else amount / weight, name, side))
    for number, name, side in told:
        if number is None:
            return None, name, side
    most = max([number for number, _, _ in told], default=0)
    return next((one for one in told if one[0] == most), (0, None, None))


class DialTest(Case):
    def test_wrong_weights(self):
        self.check_each_raises(BadDial("trust_weights"), NO_WEIGHTS, lambda value: Dial(value, None))
        self.check_each_raises(BadDial("pledge_weights"), NO_WEIGHTS, lambda value: Dial(trust_weights={}, pledge_weights=value))

    def test_weights_are_kept(self):
        told = {"zoe": 1, "ann": Ratio(4, 6), "bob": 0}
        dial = Dial(told, {})
        told["eve"] = 2
        self.check_same((("ann", Ratio(2, 3)), ("bob", Ratio(0)), ("zoe", Ratio(1))), dial.trust_weights)
        self.check_same((), dial.pledge_weights)
        self.assertEqual(Dial(pledge_weights={"bob": 0, "zoe": 1, "ann": Ratio(2, 3)}, trust_weights={}), dial.exchanged())
        self.assertEqual(dial, dial.exchanged().exchanged())

    def test_equality(self):
        others = [Dial({"ann": 1}, {}), Dial({"ann": 1}, {"bob": 3}), Dial({"ann": 2}, {"bob": 2}), Dial({"bob": 2}, {"ann": 1}),
                  Dial({"ann": 1, "bob": 0}, {"bob": 2})]
        self.check_equality(lambda: Dial({"ann": 1}, {"bob": 2}), others)
        self.assertEqual(Dial({"a": 1, "b": 2}, {}), Dial({"b": Ratio(4, 2), "a": Ratio(1)}, {}))

    def test_made_for_a_swap(self):
        one, two = {"ann": 1, "bob": 1}, {}
        self.assertEqual([Dial(one, two), Dial(two, one), Dial(one, one)], [Dial.all_trust(CUP), Dial.all_pledge(CUP), Dial.all_bounds(CUP)])
        for work in (Dial.all_trust, Dial.all_pledge, Dial.all_bounds, Dial.by_weeks):
            self.check_each_raises(BadSwap("swap"), NO_SWAPS, lambda value: work(swap=value))
        self.assertEqual(Dial({}, {"ann": 1, "bob": 1}), Dial.by_weeks(CUP))
        swap = Swap.read("a b c | a b 1 5 | b a 1/2 1 | b c 3 1/2")
        self.assertEqual(Dial({}, {"a": 0, "b": Ratio(3, 2), "c": Ratio(1, 2)}), Dial.by_weeks(swap))
        self.check_raises(Loser("b"), Dial.by_weeks, Swap.read("a b c | a b 0 1 | b c 3 1 | c a 9 1"))

    def test_one_bound(self):
        self.assertEqual([Dial({"zed": 1}, {}), Dial({}, {"zed": 1})], [Dial.one_trust("zed"), Dial.one_pledge(name="zed")])
        for work in (Dial.one_trust, Dial.one_pledge):
            for name in NO_NAMES:
                with self.assertRaises(NoStranger) as caught:
                    work(name=name)
                self.assertIs(name, caught.exception.name)

    def test_as_told(self):
        self.check_each_raises(BadDeal("deal"), NO_DEALS, lambda value: Dial.as_told(deal=value))
        deal = Deal(CUP, Bounds([None, Ratio(3, 2)], [0, None]))
        self.assertEqual(Dial({"bob": Ratio(3, 2)}, {"ann": 0}), Dial.as_told(deal))
        self.assertEqual(Dial({}, {}), Dial.as_told(Deal(CUP, Bounds.alike(2, None, None))))


class TextTest(Case):
    def test_texts(self):
        for text in ("trust | pledge", "trust ann 4 bob 1 | pledge ann 0 bob 1/2", "trust | pledge pledge 1 trust 2",
                     "trust pledge 1 trust 2 | pledge", "trust a 0 b1 1/3 b2 2 | pledge z 1"):
            self.check_read(Dial, text)

    def test_words_that_cannot_stand(self):
        for text, word in [
            ("", 0), ("trusts", 0), ("pledge | trust", 0), ("trust", 1), ("trust |", 2), ("trust pledge", 2), ("trust ann", 2),
            ("trust ann 1", 3), ("trust ann 1 |", 4), ("trust ann | pledge", 2), ("trust ann -1 | pledge", 2),
            ("trust ann 2/4 | pledge", 2), ("trust ann 1 ann 2 | pledge", 3), ("trust bob 1 ann 2 | pledge", 3),
            ("trust Ann 1 | pledge", 1), ("trust | trust", 2), ("trust | pledge |", 3), ("trust | pledge ann", 4),
            ("trust | pledge ann 1 ann 2", 5), ("trust | pledge bob 1 ann 2", 5), ("trust | pledge ann wide", 4),
            ("trust | pledge ann 1 , bob 1", 5), ("trust  | pledge", 1), ("trust | pledge ", 3), (" trust | pledge", 0),
            ("trust ann 01 | pledge", 2), ("trust ann +1 | pledge", 2), ("trust ann 1.0 | pledge", 2), ("trust ann 0/1 | pledge", 2),
            ("trust ann 1" + "0" * 60 + " | pledge", 2), ("trust | pledge a 1 b", 6), ("trust a 1 b 2 c", 6), ("trust | pledges", 2),
        ]:
            self.check_raises(BadText(0, word), Dial.read, text)
        for value in [*[one for one in ODD if not isinstance(one, str)], 3, [], ["trust"]]:
            self.check_raises(BadText(0, 0), Dial.read, text=value)
        self.assertEqual(Dial({"ann": 10 ** 59}, {}), Dial.read("trust ann 1" + "0" * 59 + " | pledge"))

    def test_each_dial_reads_its_own_text(self):
        rnd = random.Random(411)
        for _ in range(100):
            dial = random_dial(rnd, ["ann", "bob", "cay", "dan"])
            self.check_read(Dial, str(dial))
            self.assertEqual(dial, Dial.read(str(dial)))


class AtTest(Case):
    def test_wrong_values(self):
        strange = Dial({"zed": 1}, {"cay": 1, "bob": 1})
        self.check_each_raises(BadDeal("deal"), NO_DEALS, lambda value: strange.at(value, None))
        self.check_each_raises(BadNumber("x"), NO_AMOUNTS, lambda value: strange.at(deal=BARE, x=value))
        self.check_raises(NoStranger("cay"), strange.at, BARE, 1)
        self.check_raises(NoStranger("zed"), Dial({"zed": 1}, {}).at, BARE, 1)

    def test_bounds_on_the_dial_and_off(self):
        deal = Deal(CUP, Bounds([7, None], [None, 5]), [(1, 0)])
        dial = Dial({"bob": Ratio(1, 2)}, {"ann": 3, "bob": 0})
        self.assertEqual(Deal(CUP, Bounds([7, Ratio(1, 3)], [2, 0]), [(1, 0)]), dial.at(deal, Ratio(2, 3)))
        self.assertEqual(Deal(CUP, Bounds([7, 0], [0, 0]), [(1, 0)]), dial.at(deal, 0))
        self.assertEqual(deal, Dial({}, {}).at(deal, 9))
        self.assertEqual(Deal(CUP, Bounds([7, None], [None, 5]), [(1, 0)]), deal)


class NeedTest(Case):
    def test_wrong_values(self):
        strange = Dial({"zed": 1}, {"cay": 1, "bob": 1})
        self.check_each_raises(BadSwap("swap"), NO_SWAPS, lambda value: strange.need(value, None))
        self.check_each_raises(BadDeal("deal"), NO_DEALS, lambda value: strange.allowed_from(value, None))
        for work, told in ((strange.need, CUP), (strange.allowed_from, BARE)):
            self.check_each_raises(BadDone("done"), NO_DONE, lambda value: work(told, done=value))
            self.check_raises(NoHand(2), work, told, [0, 0, 2])
            self.check_raises(Twice(0), work, told, [0, 1, 0])
            self.check_raises(NoStranger("cay"), work, told, [0])

    def test_no_bound_and_no_hand_over(self):
        none = Dial({}, {})
        self.check_same((Ratio(0), None, None), none.need(CUP, [0]))
        self.check_same(None, none.allowed_from(BARE, [0]))
        self.check_same(Ratio(0), none.allowed_from(BARE, []))
        self.check_same((Ratio(0), None, None), Dial.all_bounds(NO_HANDS).need(NO_HANDS, ()))
        self.check_same(Ratio(0), Dial.all_bounds(NO_HANDS).allowed_from(Deal(NO_HANDS, Bounds.zero(2)), ()))

    def test_the_first_bound_that_needs_it(self):
        swap = Swap.read("a b | a b 2 2 | b a 2 2")
        self.check_same((Ratio(2), "a", "drawn"), Dial.all_bounds(swap).need(swap, [0]))
        self.check_same((Ratio(2), "a", "leaves"), Dial.all_bounds(swap).need(swap, [1]))
        self.check_same((Ratio(4), "b", "leaves"), Dial({"a": 1}, {"b": Ratio(1, 2)}).need(swap, [0]))
        self.check_same((None, "b", "leaves"), Dial({"a": 1}, {"b": 0}).need(swap, [0]))
        self.check_same((None, "a", "drawn"), Dial({"a": 0}, {"b": 0}).need(swap, [0]))
        self.check_same((Ratio(0), None, None), Dial({"a": 0}, {"b": 0}).need(swap, [1]))

    def test_none_by_a_leaning_or_a_bound_off_the_dial(self):
        deal = Deal(CUP, Bounds([0, None], [None, 1]), [(0, 1)])
        dial = Dial({"ann": 1}, {})
        self.check_same([Ratio(0), None, None, Ratio(0)], [dial.allowed_from(deal, done) for done in ([], [0], [1], [1, 0])])
        both = Dial({"ann": 1}, {"bob": 2})
        self.check_same([Ratio(0), Ratio(2), None, Ratio(0)], [both.allowed_from(deal, done) for done in ([], [0], [1], [1, 0])])

    def test_by_adding_up(self):
        rnd = random.Random(412)
        kinds = set()
        for deal in random_deals(413, 100, 4):
            dial = random_dial(rnd, deal.swap.strangers)
            trusts, pledges = dict(dial.trust_weights), dict(dial.pledge_weights)
            for done in all_sets(len(deal)):
                number, name, side = plain_need(deal.swap, trusts, pledges, done)
                expected = None if number is None else Ratio(*number.as_integer_ratio())
                self.check_same((expected, name, side), dial.need(deal.swap, rnd.sample(done, len(done))))
                off = [one for one in plain_objections(deal, done) if one[0] not in (trusts if one[1] == "drawn" else pledges)]
                if off or plain_broken(deal, done):
                    expected = None
                self.check_same(expected, dial.allowed_from(deal, done))
                kinds.add(expected is None)
                if expected is not None:
                    self.assertTrue(plain_allowed(dial.at(deal, expected), done))
                    self.assertTrue(plain_allowed(dial.at(deal, expected + 1), done))
                    if expected.sign > 0:
                        self.assertFalse(plain_allowed(dial.at(deal, expected * Ratio(99, 100)), done))
                else:
                    self.assertFalse(plain_allowed(dial.at(deal, 10 ** 6), done))
        self.assertEqual({False, True}, kinds)


if __name__ == "__main__":
    unittest.main()
