"""Which choices can be ended from a done set, and which are best; facts of choices."""

import itertools
import random
import unittest

from lastgiver.bounds import Bounds
from lastgiver.check_choices import (
    shows_brings_most, shows_choice_front, shows_ended, shows_gainful_most, shows_most, shows_no_choice, shows_stuck_choice,
)
from lastgiver.choices import Choice, choices
from lastgiver.deals import Deal
from lastgiver.doable import (
    Best, ChoiceFront, Ended, NoChoice, StuckChoice, brings_most, choice_front, doable, ended, gainful_most, most_chosen,
)
from lastgiver.errors import BadChoice, BadDeal, BadDone, Beyond, NoHand, TooMany, Twice
from lastgiver.ratios import Ratio
from lastgiver.roads import enough_bounds
from lastgiver.rows import find_row
from lastgiver.swaps import HandOver, Swap
from lastgiver.turned_deals import exchanged

from support import CUP, NO_DEALS, NO_DONE, NO_HANDS, Case, all_sets, random_deals, random_swap
from support_choices import (
    LIKED, allowed_within, choices_with, done_deals, drawn_out, plain_best, plain_front, plain_row, plain_sets,
)
from test_choices import NO_CHOICES

NONE = Deal(NO_HANDS, Bounds.zero(2))
OF_DEALS = (lambda deal, done: list(doable(deal, done)), most_chosen, brings_most, choice_front)


def many_hands(many, bounds=Bounds.alike(2, None, None)):
    """A deal of so many hand-overs."""
    return Deal(Swap(CUP.strangers, (CUP.hands * 20)[:many]), bounds)


class EndedTest(Case):
    def test_wrong_values(self):
        self.check_each_raises(BadChoice("choice"), NO_CHOICES, lambda value: ended(value, None))
        whole = Choice(LIKED, [1])
        self.check_each_raises(BadDone("done"), NO_DONE, lambda value: ended(whole, value))
        self.check_raises(NoHand(2), ended, choice=whole, done=[0, 0, 2])
        self.check_raises(Twice(0), ended, whole, [0, 0])
        self.check_raises(Beyond(0), ended, whole, [0, 1])
        long = Choice(many_hands(40), list(range(3, 40)))
        self.check_raises(Beyond(0), ended, long, [7, 2, 0, 1])
        self.check_raises(Beyond(2), ended, long, [2])

    def test_12_left_and_13(self):
        for numbers, done, fits in [
            (range(12), (), True), (range(13), (), False), (range(13), (5,), True), (range(40), range(28), True),
            (range(40), range(27), False), (range(20, 33), (), False), (range(20, 33), (32,), True),
        ]:
            choice = Choice(many_hands(40), list(numbers))
            if fits:
                left = tuple(number for number in numbers if number not in done)
                self.check_same((tuple(numbers), tuple(done), left), ended(choice, list(done)).parts)
            else:
                self.check_raises(TooMany("hands", 12), ended, choice, list(done))

    def test_classes(self):
        found = ended(Choice(LIKED, [1]), [1])
        self.check_same((Ended, "ended", True), (type(found), found.word, bool(found)))
        self.check_same(((1,), (1,), ()), (found.numbers, found.done, found.row))
        found = ended(Choice.whole(LIKED), [0])
        self.check_same((StuckChoice, "stuckchoice", False), (type(found), found.word, bool(found)))
        self.check_same(((0, 1), (0,), ()), (found.numbers, found.done, found.sets))
        self.check_same(((), (), ()), ended(Choice.none(LIKED), ()).parts)
        self.check_same(((), (), ()), ended(Choice.whole(NONE)).parts)

    def test_by_trying_all_rows(self):
        kinds = []
        for deal in random_deals(971, 60, 4):
            for numbers in all_sets(len(deal)):
                choice = Choice(deal, numbers)
                for done in itertools.chain.from_iterable(itertools.combinations(numbers, many) for many in range(len(numbers) + 1)):
                    found = ended(choice, done[::-1])
                    row = plain_row(deal, numbers, done)
                    kinds.append(type(found))
                    if row is None:
                        self.check_same((numbers, done, tuple(plain_sets(deal, numbers, done))), found.parts)
                        self.assertIs(True, shows_stuck_choice(deal, found))
                    else:
                        self.check_same((numbers, done, row), found.parts)
                        self.assertIs(True, shows_ended(deal, found))
                self.assertIs(bool(ended(choice)), bool(find_row(choice.inner)))
        self.assertGreater(min(kinds.count(Ended), kinds.count(StuckChoice)), 200)


class ErrorsTest(Case):
    def test_wrong_values(self):
        for work in OF_DEALS:
            self.check_each_raises(BadDeal("deal"), NO_DEALS, lambda value: work(value, None))
            self.check_each_raises(BadDone("done"), NO_DONE, lambda value: work(LIKED, value))
            self.check_raises(NoHand(2), work, LIKED, [0, 0, 2])
            self.check_raises(Twice(1), work, LIKED, [1, 1])
            for many in (7, 40):
                self.check_raises(TooMany("hands", 6), work, many_hands(many), [0])
                self.check_raises(TooMany("hands", 6), work, many_hands(many, Bounds.zero(2)), [0])
                self.check_raises(NoHand(40), work, many_hands(many), [40])
        self.check_each_raises(BadDeal("deal"), NO_DEALS, gainful_most)
        self.check_raises(TooMany("hands", 6), gainful_most, many_hands(7))
        self.check_raises(TooMany("hands", 6), lambda: list(doable(deal=many_hands(7))))
        self.check_same(tuple(range(6)), most_chosen(deal=many_hands(6), done=()).numbers)
        self.check_same(6, len(gainful_most(deal=many_hands(6)).numbers))

    def test_somebody_drawn_out_at_done(self):
        deal = LIKED.with_bounds(Bounds([1, 0], [9, 9]))
        for work in (most_chosen, brings_most, choice_front):
            found = work(deal, [0])
            self.check_same((NoChoice, "nochoice", False), (type(found), found.word, bool(found)))
            self.check_same(((0,), "ann", Ratio(1)), (found.done, found.name, found.amount))
            self.check_same(((1,), "bob", Ratio(2)), work(deal, (1,)).parts)
            self.check_same(((0,), "ann", Ratio(1)), work(Deal(deal.swap, deal.bounds, [(1, 0)]), [0]).parts)
        self.assertEqual([], list(doable(deal, [0])))
        self.assertFalse(ended(Choice(deal, [0]), [0]))
        # Who would leave is not drawn out.
        self.assertTrue(most_chosen(LIKED.with_bounds(Bounds([2, 2], [0, 0])), [0]))


class BestTest(Case):
    def test_ties(self):
        # All choices bring the same; then two of one number.
        even = Deal(Swap.read("a b | a b 1 1 | a b 2 2 | b a 1 1"), Bounds.alike(2, None, None))
        self.check_same(((0, 1, 2), ()), (most_chosen(even).numbers, brings_most(even).numbers))
        self.check_same((), gainful_most(even).numbers)
        alike = Deal(Swap.read("a b | a b 1 2 | a b 1 2 | b a 1 2"), Bounds([1, 9], [9, 9]), [(0, 2), (1, 2)])
        for work in (most_chosen, brings_most):
            self.check_same(plain_best(alike, (), choices_with(alike), work is most_chosen), work(alike).parts)
        lone = Deal(Swap.read("a b | a b 1 2 | a b 1 2"), Bounds([1, 9], [9, 9]))
        self.check_same(((0,), (0,)), (most_chosen(lone).numbers, brings_most(lone).numbers))
        more = Deal(Swap.read("a b | a b 1 2 | a b 1 3"), Bounds([1, 9], [9, 9]))
        self.check_same(((1,), (1,)), (most_chosen(more).numbers, brings_most(more).numbers))

    def test_more_hand_overs_or_more_brought(self):
        deal = Deal(Swap.read("a b | a b 2 9 | a b 1 2 | a b 1 2"), Bounds([2, 9], [99, 99]))
        self.check_same(((1, 2), (0,)), (most_chosen(deal).numbers, brings_most(deal).numbers))
        worse = Deal(Swap.read("a b | a b 2 1 | b a 1 3"), Bounds.alike(2, 9, 9))
        self.check_same(((0, 1), (1,)), (most_chosen(worse).numbers, brings_most(worse).numbers))

    def test_by_trying_all_choices(self):
        for deal, done in done_deals(981, 160):
            told = choices_with(deal, done)
            found = list(doable(deal, list(done)[::-1]))
            rows = [(numbers, done, plain_row(deal, numbers, done)) for numbers in told]
            self.assertEqual([parts for parts in rows if parts[2] is not None], [one.parts for one in found])
            self.assertTrue(all(type(one) is Ended for one in found))
            out = drawn_out(deal, done)
            for work, shows in ((most_chosen, shows_most), (brings_most, shows_brings_most), (choice_front, shows_choice_front)):
                best = work(deal, list(done)[::-1])
                if out is not None:
                    self.check_same((done, out[0], Ratio(*out[1].as_integer_ratio())), best.parts)
                    self.assertIs(True, shows_no_choice(deal, best))
                    self.assertEqual([], found)
                    continue
                if work is choice_front:
                    self.assertIs(ChoiceFront, type(best))
                    self.assertEqual(plain_front(deal, done), best.parts)
                else:
                    self.assertIs(Best, type(best))
                    self.assertEqual(plain_best(deal, done, told, work is most_chosen), best.parts)
                self.assertIs(True, shows(deal, done, best))
                self.assertIs(tuple, type(best.others))
            gainful = [numbers for numbers in all_sets(len(deal)) if Choice(deal, numbers).is_gainful]
            best = gainful_most(deal)
            self.assertEqual(plain_best(deal, (), gainful, False), best.parts)
            self.assertIs(True, shows_gainful_most(deal, best))

    def test_nets_that_are_better_in_one_place_alone(self):
        deal = Deal(Swap.read("a b c | a b 0 1 | a c 0 1"), Bounds([0, 9, 9], [9, 9, 9]))
        self.assertEqual((((0, 1), (0, 1)),), choice_front(deal).points)
        deal = Deal(Swap.read("a b c | a b 1 1 | a c 1 1"), Bounds([9, 9, 9], [9, 9, 9]))
        self.assertEqual(((), (0,), (1,), (0, 1)), tuple(numbers for numbers, _ in choice_front(deal).points))
        equal = Deal(Swap.read("a b | a b 1 1 | a b 1 1"), Bounds([1, 9], [9, 9]))
        found = choice_front(equal)
        self.assertEqual(((), (0,), (1,)), tuple(numbers for numbers, _ in found.points))
        self.assertEqual(((0, 1),), tuple(one.numbers for one in found.others))

    def test_any_such_is_the_same_again(self):
        for deal, done in done_deals(982, 20):
            for work in (most_chosen, brings_most, choice_front):
                self.assertEqual(work(deal, done), work(deal, done))


class FactsTest(Case):
    def test_some_choice_can_be_ended_exactly_if_nobody_is_drawn_out(self):
        for deal, done in done_deals(983, 120):
            found = [one.numbers for one in doable(deal, done)]
            self.assertIs(drawn_out(deal, done) is None, found != [])
            self.assertIs(found != [], done in found)

    def test_greater_bounds_lose_none(self):
        for deal, done in done_deals(984, 60):
            wider = deal.with_bounds(deal.bounds | Bounds.alike(len(deal.bounds), 2, 1))
            self.assertTrue({one.numbers for one in doable(deal, done)} <= {one.numbers for one in doable(wider, done)})

    def test_the_exchanged_deal(self):
        for deal in random_deals(985, 80, 4):
            found = [one.numbers for one in doable(deal)]
            self.assertEqual(found, [one.numbers for one in doable(exchanged(deal))])
            for one in doable(deal):
                self.assertIs(True, shows_ended(exchanged(deal), Ended(one.numbers, (), one.row[::-1])))

    def test_joined_choices(self):
        rnd = random.Random(986)
        joined = barred = 0
        for _ in range(60):
            swap = random_swap(rnd, rnd.choice([2, 3]), 4, gainful=True)
            deal = Deal(swap, Bounds.alike(len(swap.strangers), rnd.choice([2, 4]), rnd.choice([2, 4])), rnd.choice([(), [(0, 2)], [(3, 1)]]))
            found = [one for one in doable(deal) if Choice(deal, one.numbers).is_gainful]
            for one, other in itertools.product(found, repeat=2):
                if set(one.numbers) & set(other.numbers):
                    continue
                both = (Choice(deal, one.numbers) | Choice(deal, other.numbers)).numbers
                if any(e in other.numbers and f in one.numbers for e, f in deal.leanings.pairs):
                    barred += 1
                else:
                    joined += 1
                    self.assertIs(True, shows_ended(deal, Ended(both, (), one.row + other.row)))
        self.assertGreater(min(joined, barred), 10)

    def test_nothing_pledged_and_each_hand_over_costs_something(self):
        rnd = random.Random(987)
        for _ in range(40):
            swap = random_swap(rnd, rnd.choice([2, 3]), rnd.randrange(5))
            swap = Swap(swap.strangers, [HandOver(hand.giver, hand.taker, hand.cost + Ratio(1, 3), hand.gain) for hand in swap])
            many = len(swap.strangers)
            deal = Deal(swap, Bounds([rnd.choice([2, 5, None]) for _ in range(many)], [0] * many))
            for done in all_sets(len(swap)):
                self.assertEqual([done] if drawn_out(deal, done) is None else [], [one.numbers for one in doable(deal, done)])

    def test_bounds_that_are_enough_for_its_inner_swap(self):
        rnd = random.Random(988)
        for _ in range(60):
            swap = random_swap(rnd, rnd.choice([2, 3]), rnd.randrange(6))
            for choice in choices(Deal(swap, Bounds.zero(len(swap.strangers)))):
                wide = Deal(swap, enough_bounds(choice.inner.swap))
                self.assertTrue(ended(Choice(wide, choice.numbers)))

    def test_inner_sets_are_those_of_inner_deals(self):
        for deal in random_deals(989, 20, 4):
            for choice in choices(deal):
                sets = [choice.numbers_of(done) for done in all_sets(len(choice)) if choice.inner.is_allowed(done)]
                self.assertEqual(allowed_within(deal, choice.numbers), sets)


if __name__ == "__main__":
    unittest.main()
