"""Fronts of two dials."""

import itertools
import random
import unittest

from lastgiver.bounds import Bounds
from lastgiver.deals import Deal
from lastgiver.dials import Dial
from lastgiver.errors import BadDeal, BadDial, BadNumber, NoStranger, TooMany
from lastgiver.fronts import Front, front
from lastgiver.least import Never
from lastgiver.ratios import Ratio
from lastgiver.rows import find_row
from lastgiver.swaps import Swap
from lastgiver.turned_deals import exchanged

from support import (
    CUP, NO_AMOUNTS, NO_DEALS, NO_HANDS, ODD, Case, as_fraction, plain_closure, plain_needs, random_deals, random_dial,
)

LOOSE = Deal(CUP, Bounds([0, 0], [2, 2]))
TRUST, PLEDGE = Dial.all_trust(CUP), Dial.all_pledge(CUP)
NO_DIALS = [*ODD, CUP, Bounds.zero(2), [], 3, "trust | pledge", ({}, {}), LOOSE]


def as_ratio(fraction):
    """The Ratio of a Fraction."""
    return Ratio(*fraction.as_integer_ratio())


def plain_front(deal, one, other):
    """The parts of a Front, or of a Never alone, by trying all orders."""
    needs = plain_needs(deal, (one, other))
    pairs = {}
    for row in itertools.permutations(range(len(deal))):
        sets = [tuple(sorted(row[:k])) for k in range(len(row) + 1)]
        if all(done in needs for done in sets):
            pair = (max(needs[done][0] for done in sets), max(needs[done][1] for done in sets))
            pairs.setdefault(pair, row)
    if not pairs:
        return (tuple(plain_closure(list(needs), len(deal))),)
    points = sorted(pair for pair in pairs if not any(
        x <= pair[0] and y <= pair[1] and (x, y) != pair for x, y in pairs))
    rows = [min(row for (x, y), row in pairs.items() if x <= point[0] and y <= point[1]) for point in points]
    firsts, seconds = [*[x for x, _ in points], None], [None, *[y for _, y in points]]
    fences = []
    for x, y in zip(firsts, seconds):
        below = [done for done, (a, b) in needs.items() if (x is None or a < x) and (y is None or b < y)]
        fences.append(tuple(plain_closure(below, len(deal))))
    return tuple((as_ratio(x), as_ratio(y)) for x, y in points), tuple(rows), tuple(fences)


def apart(rnd, names):
    """Two dials that have no bound in common."""
    one, other = random_dial(rnd, names), random_dial(rnd, names)
    trusts, pledges = dict(one.trust_weights), dict(one.pledge_weights)
    return one, Dial(*[{name: weight for name, weight in told if name not in mine}
                       for told, mine in ((other.trust_weights, trusts), (other.pledge_weights, pledges))])


class FrontTest(Case):
    def test_wrong_values(self):
        strange = Dial({"zed": 1}, {"cay": 1})
        many = Deal(Swap(CUP.strangers, CUP.hands * 5), Bounds.zero(2))
        self.check_each_raises(BadDeal("deal"), NO_DEALS, lambda value: front(value, None, None))
        self.check_each_raises(BadDial("one"), NO_DIALS, lambda value: front(LOOSE, value, None))
        self.check_each_raises(BadDial("other"), NO_DIALS, lambda value: front(LOOSE, strange, value))
        for one, other in ((TRUST, TRUST), (strange, strange), (TRUST, Dial({"bob": 0}, {})), (Dial({}, {"ann": 1}), PLEDGE)):
            self.check_raises(BadDial("other"), front, deal=many, one=one, other=other)
        self.check_raises(NoStranger("cay"), front, many, strange, Dial({"abe": 1}, {}))
        self.check_raises(NoStranger("abe"), front, many, TRUST, Dial({"abe": 1}, {"bob": 1}))
        self.assertTrue(front(LOOSE, Dial({"ann": 1}, {}), Dial({}, {"ann": 1})) is not None)

    def test_8_hand_overs_and_9(self):
        for many in (9, 40):
            deal = Deal(Swap(CUP.strangers, (CUP.hands * 20)[:many]), Bounds.alike(2, None, None))
            self.check_raises(TooMany("hands", 8), front, deal, Dial({}, {}), Dial({}, {}))
        deal = Deal(Swap(CUP.strangers, CUP.hands * 4), Bounds.alike(2, None, None))
        found = front(deal, TRUST, PLEDGE)
        self.assertEqual(((2, 2),), found.points)
        self.assertEqual(2, len(found.fences))

    def test_one_point_and_never(self):
        found = front(LOOSE, TRUST, Dial({}, {}))
        self.assertIs(Front, type(found))
        self.check_same((((Ratio(2), Ratio(0)),), ((0, 1),), (((),), ())), found.parts)
        self.check_same((True, "front", ((0, 1),)), (bool(found), found.word, found.rows))
        none = front(Deal(NO_HANDS, Bounds.zero(2)), TRUST, PLEDGE)
        self.check_same((((Ratio(0), Ratio(0)),), ((),), ((), ())), none.parts)
        never = front(Deal(CUP, Bounds.alike(2, 1, 1)), Dial({"ann": 1}, {}), Dial({"bob": 1}, {}))
        self.assertIs(Never, type(never))
        self.check_same((((),),), never.parts)
        self.check_same((), front(Deal(Swap.read("a b | a b 3 1"), Bounds.zero(2)), Dial({"a": 1}, {}), Dial({}, {"b": 1})).sets)

    def test_by_trying_all_orders(self):
        rnd = random.Random(451)
        many = []
        for deal in random_deals(452, 120, 4):
            one, other = apart(rnd, deal.swap.strangers)
            found = front(deal=deal, one=one, other=other)
            many.append(len(found.points) if found else 0)
            self.check_same(plain_front(deal, one, other), found.parts)
        self.assertTrue({0, 1, 2} <= set(many), many)

    def test_a_pair_does_exactly_if_some_point_is_greater_in_neither_number(self):
        rnd = random.Random(453)
        told = set()
        for deal in random_deals(454, 60, 5):
            one, other = apart(rnd, deal.swap.strangers)
            found = front(deal, one, other)
            for _ in range(6):
                x, y = Ratio(rnd.randrange(13), 2), Ratio(rnd.randrange(13), 2)
                good = bool(find_row(other.at(one.at(deal, x), y)))
                told.add(good)
                self.assertIs(good, found.does(x, y) if found else False)
        self.assertEqual({False, True}, told)

    def test_the_exchanged_deal_has_the_same_points(self):
        rnd = random.Random(455)
        for deal in random_deals(456, 60, 5):
            one, other = apart(rnd, deal.swap.strangers)
            found, back = front(deal, one, other), front(exchanged(deal), one.exchanged(), other.exchanged())
            self.assertEqual(bool(found), bool(back))
            if found:
                self.assertEqual(found.points, back.points)

    def test_the_front_of_all_trust_beside_all_pledge_is_its_own_mirror(self):
        several = 0
        for deal in random_deals(457, 80, 6, leanings=False):
            swap = deal.swap
            found = front(Deal(swap, Bounds.zero(len(swap.strangers))), Dial.all_trust(swap), Dial.all_pledge(swap))
            several += len(found.points) > 2
            self.assertEqual(found.points, tuple((y, x) for x, y in found.points[::-1]))
        self.assertGreater(several, 3)


class PaperTest(Case):
    def test_does_and_cheapest(self):
        paper = Front([[1, Ratio(9, 2)], [Ratio(3, 2), 4], [5, 0]], [], [])
        for x, y, does in [(0, 99, False), (1, 4, False), (1, Ratio(9, 2), True), (Ratio(3, 2), 4, True), (4, 3, False), (5, 0, True),
                           (100, 100, True), (2, Ratio(399, 100), False)]:
            self.assertIs(does, paper.does(x, y))
            self.assertIs(does, paper.does(x=Ratio.of(x), y=y))
        self.check_same((Ratio(5), 2), paper.cheapest(1, 1))
        self.check_same((Ratio(9), 0), paper.cheapest(9, 0))
        self.check_same((Ratio(5), 2), paper.cheapest(1, 9))
        self.check_same((Ratio(1), 0), paper.cheapest(a=1, b=0))
        self.check_same((Ratio(0), 2), paper.cheapest(0, Ratio(1, 2)))
        self.check_same((Ratio(0), 0), paper.cheapest(0, 0))
        self.check_same((Ratio(15, 4), 0), paper.cheapest(Ratio(3, 2), Ratio(1, 2)))

    def test_the_first_of_equally_cheap_points(self):
        self.check_same((Ratio(3), 0), Front([(1, 2), (2, 1)], (), ()).cheapest(1, 1))
        self.check_same((Ratio(1), 1), Front([(1, 2), (2, 1)], (), ()).cheapest(0, 1))

    def test_wrong_numbers(self):
        paper = Front([(1, 2)], [], [])
        self.check_each_raises(BadNumber("x"), NO_AMOUNTS, lambda value: paper.does(value, None))
        self.check_each_raises(BadNumber("y"), NO_AMOUNTS, lambda value: paper.does(1, value))
        self.check_each_raises(BadNumber("a"), NO_AMOUNTS, lambda value: paper.cheapest(value, None))
        self.check_each_raises(BadNumber("b"), NO_AMOUNTS, lambda value: paper.cheapest(a=0, b=value))

    def test_points_are_least_by_pairs(self):
        for deal in random_deals(458, 30, 5):
            found = front(deal, Dial.all_trust(deal.swap), Dial.all_pledge(deal.swap))
            if found:
                told = [(as_fraction(x), as_fraction(y)) for x, y in found.points]
                self.assertEqual(told, sorted(told))
                self.assertEqual([y for _, y in told], sorted((y for _, y in told), reverse=True))


if __name__ == "__main__":
    unittest.main()
