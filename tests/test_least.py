"""Least numbers on a dial, pinches, fences."""

import itertools
import random
import unittest

from lastgiver.bounds import Bounds
from lastgiver.deals import Deal
from lastgiver.dials import Dial
from lastgiver.errors import BadDeal, BadDial, BadDone, NoHand, NoStranger, TooMany, Twice
from lastgiver.least import Least, Never, least, seen_from
from lastgiver.ratios import Ratio
from lastgiver.roads import rank
from lastgiver.swaps import Swap
from lastgiver.turned import one_after, portion, scaled
from lastgiver.turned_deals import exchanged, handed_back_deal

from support import (
    CUP, NO_DEALS, NO_DONE, NO_HANDS, ODD, Case, all_sets, as_fraction, own, plain_closure, plain_needs, random_bound, random_deal,
    random_deals, random_dial, random_swap,
)

LOOSE = Deal(CUP, Bounds([0, 0], [2, 2]))
TRUST = Dial.all_trust(CUP)
NO_DIALS = [*ODD, CUP, Bounds.zero(2), [], 3, "trust | pledge", ({}, {}), LOOSE]


def as_ratio(fraction):
    """The Ratio of a Fraction."""
    return Ratio(*fraction.as_integer_ratio())


def plain_least(deal, dial, done):
    """The parts of a Least, or of a Never alone, by trying all orders."""
    needs = {one: told[0] for one, told in plain_needs(deal, (dial,)).items()}
    left = [number for number in range(len(deal)) if number not in done]
    found = []
    for row in itertools.permutations(left):
        sets = [tuple(sorted((*done, *row[:k]))) for k in range(len(row) + 1)]
        if all(one in needs for one in sets):
            found.append((max(needs[one] for one in sets), row, sets))
    if not found:
        return (tuple(plain_closure(list(needs), len(deal), done)),)
    number, row, sets = min(found)
    pinch = [needs[one] for one in sets].index(number)
    fence = plain_closure([one for one, need in needs.items() if need < number], len(deal), done)
    return as_ratio(number), row, pinch, tuple(fence)


def cases(seed, times, hands=5):
    """Deals with dials, and done sets to begin from."""
    rnd = random.Random(seed)
    for deal in random_deals(seed + 1000, times, hands):
        done = rnd.choice([(), (), rnd.choice(all_sets(len(deal)))])
        yield deal, random_dial(rnd, deal.swap.strangers), done


class LeastTest(Case):
    def test_wrong_values(self):
        strange = Dial({"zed": 1}, {"cay": 1})
        self.check_each_raises(BadDeal("deal"), NO_DEALS, lambda value: least(value, None, None))
        self.check_each_raises(BadDial("dial"), NO_DIALS, lambda value: least(LOOSE, value, None))
        self.check_each_raises(BadDone("done"), NO_DONE, lambda value: least(LOOSE, strange, value))
        self.check_raises(NoHand(2), least, deal=LOOSE, dial=strange, done=[0, 0, 2])
        self.check_raises(Twice(1), least, LOOSE, strange, [1, 0, 1])
        self.check_raises(NoStranger("cay"), least, LOOSE, strange, [0])
        many = Deal(Swap(CUP.strangers, CUP.hands * 20), Bounds.zero(2))
        self.check_raises(NoStranger("cay"), least, many, strange)

    def test_12_hand_overs_left_and_13(self):
        for many, done in ((13, ()), (14, [13]), (40, list(range(27)))):
            deal = Deal(Swap(CUP.strangers, (CUP.hands * 20)[:many]), Bounds.alike(2, None, None))
            self.check_raises(TooMany("hands", 12), least, deal, Dial({}, {}), done)
        deal = Deal(Swap(CUP.strangers, CUP.hands * 20), Bounds.alike(2, None, None))
        found = least(deal, TRUST, list(range(28)))
        self.check_same((Ratio(0), tuple(range(28, 40)), 0, ()), found.parts)

    def test_classes(self):
        found = least(LOOSE, TRUST)
        self.assertIs(Least, type(found))
        self.check_same((Ratio(2), (0, 1), 1, ((),)), found.parts)
        self.check_same((True, "least", Ratio(2), (0, 1), 1, ((),)),
                        (bool(found), found.word, found.number, found.row, found.pinch, found.fence))
        never = least(Deal(CUP, Bounds.alike(2, 1, 1)), TRUST)
        self.assertIs(Never, type(never))
        self.check_same((False, "never", (((),),)), (bool(never), never.word, never.parts))
        self.check_same(((),), never.sets)

    def test_no_hand_over(self):
        none = Deal(NO_HANDS, Bounds.zero(2))
        self.check_same((Ratio(0), (), 0, ()), least(none, Dial.all_bounds(NO_HANDS)).parts)
        self.check_same((Ratio(0), (), 0, ()), least(none, Dial({}, {}), []).parts)

    def test_a_done_set_that_is_full_none_or_never_allowed(self):
        losing = Deal(Swap.read("a b | a b 3 1"), Bounds([1, 0], [0, 0]))
        dial = Dial({"a": Ratio(1, 2)}, {})
        self.check_same((Ratio(6), (), 0, ()), least(losing, dial, [0]).parts)
        self.check_same((), least(losing, dial).sets)
        self.check_same((Ratio(6), (0,), 0, ()), least(losing, Dial({"a": Ratio(1, 2)}, {"a": Ratio(1, 2)})).parts)
        never = Deal(CUP, Bounds.alike(2, 9, 9), [(0, 1)])
        self.check_same((), least(never, TRUST, [1]).sets)
        self.check_same((), least(Deal(CUP, Bounds.alike(2, 9, 1)), TRUST, [1]).sets)
        self.check_same(((1,),), least(Deal(CUP, Bounds.alike(2, 9, 2), [(0, 1)]), TRUST, [0]).parts[1:2])

    def test_a_dial_without_bounds_and_one_with_weights_of_0(self):
        deal = Deal(CUP, Bounds([2, 0], [0, 2]))
        self.check_same((Ratio(0), (0, 1), 0, ()), least(deal, Dial({}, {})).parts)
        self.check_same((((),),), least(LOOSE, Dial({}, {})).parts)
        self.check_same((((),),), least(Deal(CUP, Bounds.alike(2, 9, 9)), Dial({"ann": 0, "bob": 0}, {})).parts)
        self.check_same((((),),), least(Deal(CUP, Bounds.alike(2, None, None)), Dial({"ann": 0, "bob": 0}, {})).parts)

    def test_the_same_name_in_both_halves(self):
        dial = Dial({"ann": 1, "bob": 2}, {"ann": 2, "bob": 1})
        found = least(LOOSE, dial)
        self.assertEqual(plain_least(LOOSE, dial, ()), found.parts)

    def test_by_trying_all_orders(self):
        kinds = []
        for deal, dial, done in cases(421, 150):
            found = least(deal, dial, list(done)[::-1])
            kinds.append(type(found))
            self.check_same(plain_least(deal, dial, done), found.parts)
            if done == ():
                self.assertEqual(found, least(deal=deal, dial=dial))
        self.assertGreater(kinds.count(Least), 30)
        self.assertGreater(kinds.count(Never), 30)

    def test_few_and_many_sets_of_greater_deals(self):
        rnd = random.Random(422)
        near = set()
        for place in range(24):
            deal = random_deal(rnd, rnd.choice([2, 3]), rnd.choice([7, 8, 9]), rnd.choice([0, 0, 2]), rnd.choice([9, 30]))
            dial = [random_dial(rnd, deal.swap.strangers), Dial.all_bounds(deal.swap), Dial.all_trust(deal.swap)][place % 3]
            done = rnd.choice([(), (0,)])
            near.add(seen_from(deal, dial, done)._near_need() is None)
            needs = {one: told[0] for one, told in plain_needs(deal, (dial,)).items()}
            full = tuple(range(len(deal)))
            ways = {}
            for one in all_sets(len(deal))[::-1]:
                if one in needs and set(done) <= set(one):
                    further = [ways[more] for more in (tuple(sorted((*one, number))) for number in full if number not in one) if more in ways]
                    if one == full or further:
                        ways[one] = max(needs[one], min(further, default=0))
            found = least(deal, dial, done)
            if done not in ways:
                self.check_same((tuple(plain_closure(list(needs), len(deal), done)),), found.parts)
                continue
            row, sets = [], [done]
            while sets[-1] != full:
                row.append(next(number for number in full if number not in sets[-1] and ways.get(
                    tuple(sorted((*sets[-1], number))), ways[done] + 1) <= ways[done]))
                sets.append(tuple(sorted((*sets[-1], row[-1]))))
            fence = plain_closure([one for one, need in needs.items() if need < ways[done]], len(deal), done)
            pinch = [needs[one] for one in sets].index(ways[done])
            self.check_same((as_ratio(ways[done]), tuple(row), pinch, tuple(fence)), found.parts)
        self.assertEqual({False, True}, near)

    def test_what_is_returned_is_equal_again_and_what_is_passed_stays(self):
        deal, done = Deal(CUP, Bounds([0, 0], [2, 2])), [0]
        self.assertEqual(least(deal, TRUST, done), least(deal, Dial.all_trust(CUP), (0,)))
        self.assertEqual([0], done)
        self.assertEqual(LOOSE, deal)


class FactsTest(Case):
    def test_each_row_that_is_good_at_the_least_number_has_a_moment_that_needs_it(self):
        for deal, dial, _ in cases(431, 60, 4):
            found = least(deal, dial)
            if found:
                at = dial.at(deal, found.number)
                for row in itertools.permutations(range(len(deal))):
                    if all(at.is_allowed(row[:k]) for k in range(len(row) + 1)):
                        needs = [dial.allowed_from(deal, row[:k]) for k in range(len(row) + 1)]
                        self.assertIn(found.number, needs)

    def test_the_fence_is_what_is_reached_at_lesser_numbers(self):
        for deal, dial, _ in cases(432, 60):
            found = least(deal, dial)
            if found:
                fence = set(found.fence)
                self.assertNotIn(tuple(range(len(deal))), fence)
                for done in found.fence:
                    for number in set(range(len(deal))) - set(done):
                        further = tuple(sorted((*done, number)))
                        need = dial.allowed_from(deal, further)
                        self.assertTrue(further in fence or need is None or not need.is_below(found.number))

    def test_wider_bounds_or_a_leaning_less_never_make_it_greater(self):
        rnd = random.Random(433)
        tried = 0
        for deal, dial, _ in cases(434, 100):
            found = least(deal, dial)
            if found:
                tried += 1
                wider = deal.bounds | Bounds.alike(len(deal.bounds), rnd.choice([0, 1, 3, None]), rnd.choice([0, 1, 3]))
                more = least(Deal(deal.swap, wider, deal.leanings.pairs[1:]), dial)
                self.assertTrue(more)
                self.assertFalse(found.number.is_below(more.number))
        self.assertGreater(tried, 20)

    def test_multiplied_and_divided(self):
        for deal, dial, _ in cases(435, 60):
            times = Ratio(3, 2)
            bounds = Bounds(*[[None if one is None else one * times for one in told] for told in (deal.bounds.trusts, deal.bounds.pledges)])
            found = least(deal, dial)
            greater = least(Deal(scaled(deal.swap, times), bounds, deal.leanings), dial)
            heavier = least(deal, Dial(*[{name: one * times for name, one in told} for told in (dial.trust_weights, dial.pledge_weights)]))
            self.assertEqual(bool(found), bool(greater) and bool(heavier))
            if found:
                self.assertEqual((found.number * times, found.number.over(times)), (greater.number, heavier.number))

    def test_in_the_exchanged_deal_it_is_the_same(self):
        for deal, dial, _ in cases(436, 80):
            found, other = least(deal, dial), least(exchanged(deal), dial.exchanged())
            self.assertEqual(bool(found), bool(other))
            if found:
                self.assertEqual(found.number, other.number)

    def test_in_the_deal_handed_back_it_is_greater_by_the_net(self):
        tried = 0
        for deal, _, _ in cases(437, 200):
            try:
                back = handed_back_deal(deal)
            except ValueError:
                continue
            for name, net in zip(deal.swap.strangers, deal.swap.nets):
                for dial in (Dial.one_trust(name), Dial.one_pledge(name)):
                    found, other = least(deal, dial), least(back, dial)
                    self.assertEqual(bool(found), bool(other))
                    if found:
                        tried += 1
                        self.assertEqual(found.number + net, other.number)
        self.assertGreater(tried, 50)

    def test_two_swaps_one_after_the_other(self):
        rnd = random.Random(438)
        tried = 0
        while tried < 40:
            swaps = [random_swap(rnd, 3, rnd.randrange(4), gainful=True) for _ in range(2)]
            bounds = Bounds([random_bound(rnd) for _ in range(3)], [random_bound(rnd) for _ in range(3)])
            dial = random_dial(rnd, ["ann", "bob", "cay"])
            found = [least(Deal(swap, bounds), dial) for swap in swaps]
            if all(found) and all(swap.is_gainful for swap in swaps):
                tried += 1
                both = least(Deal(one_after(*swaps), bounds), dial)
                self.assertFalse(max((one.number for one in found), key=as_fraction).is_below(both.number))

    def test_at_most_the_greatest_of_the_own_costs(self):
        rnd = random.Random(439)
        tried = 0
        while tried < 60:
            swap = random_swap(rnd, rnd.choice([2, 3, 4]), rnd.randrange(7), gainful=True)
            if swap.is_gainful:
                tried += 1
                number = rank(swap).number
                found = least(Deal(swap, Bounds.alike(len(swap.strangers), 0, None)), Dial.all_trust(swap))
                most = max(own(swap, name, number, "cost") for name in swap.strangers)
                self.assertLessEqual(as_fraction(found.number), most)

    def test_from_a_done_set_on_as_of_what_is_left(self):
        for deal, _, done in cases(440, 60):
            # A dial of pledges alone is the same for what is left.
            left = [number for number in range(len(deal)) if number not in done]
            places = {number: place for place, number in enumerate(left)}
            dial = Dial({}, {name: 1 for name in deal.swap.strangers})
            if deal.with_bounds(Bounds(deal.bounds.trusts, [None] * len(deal.bounds))).is_allowed(done):
                sums = [sum((hand.effect(name) for hand in portion(deal.swap, done)), Ratio(0)) for name in deal.swap.strangers]
                trusts = [None if one is None else one + total for one, total in zip(deal.bounds.trusts, sums)]
                pairs = [(places[e], places[f]) for e, f in deal.leanings.pairs if e in places and f in places]
                inner = Deal(portion(deal.swap, left), Bounds(trusts, deal.bounds.pledges), pairs)
                found, by_rest = least(deal, dial, done), least(inner, dial)
                self.assertEqual(bool(found), bool(by_rest))
                if found:
                    self.assertEqual((found.number, found.pinch), (by_rest.number, by_rest.pinch))
                    self.assertEqual(found.row, tuple(left[place] for place in by_rest.row))


if __name__ == "__main__":
    unittest.main()
