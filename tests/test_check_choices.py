"""Whether papers about choices are right: right ones, and ones bent at each place."""

import itertools
import random
import unittest

from lastgiver.bounds import Bounds
from lastgiver.check_choices import (
    shows_brings_most, shows_choice_front, shows_ended, shows_gainful_most, shows_most, shows_no_choice, shows_stuck_choice,
)
from lastgiver.choices import Choice
from lastgiver.deals import Deal
from lastgiver.doable import (
    Best, ChoiceFront, Ended, NoChoice, StuckChoice, brings_most, choice_front, doable, ended, gainful_most, most_chosen,
)
from lastgiver.errors import BadDeal, BadDone, NoHand, Twice
from lastgiver.papers import Paper
from lastgiver.ratios import Ratio
from lastgiver.rows import Good, Stuck

from support import NO_DEALS, NO_DONE, ODD, Case, all_sets, bent, loosened, random_deals
from support_choices import (
    LIKED, choices_with, done_deals, drawn_out, plain_sets, right_best, right_ended, right_front, right_none, right_stuck,
)
from test_doable import many_hands

NO_PAPERS = [*ODD, 3, [], (), Paper("ended", (), (), ()), Good([0]), Stuck([()])]
DONE_SHOWS = (shows_most, shows_brings_most, shows_choice_front)


def gainful_in(deal):
    """The numbers of the gainful choices."""
    return [numbers for numbers in all_sets(len(deal)) if Choice(deal, numbers).is_gainful]


def bent_best(value):
    """The parts of a Best or a ChoiceFront bent at one place, also within its StuckChoices."""
    yield from bent(value.parts)
    for place, other in enumerate(value.others):
        for parts in bent(other.parts):
            if isinstance(parts, tuple) and len(parts) == 3:
                others = (*value.others[:place], StuckChoice(*parts), *value.others[place + 1:])
                yield (*value.parts[:-1], others)
        for wrong in (Ended(*other.parts), Stuck(other.sets), other.parts, None):
            yield (*value.parts[:-1], (*value.others[:place], wrong, *value.others[place + 1:]))


class SingleTest(Case):
    def test_wrong_values(self):
        for work in (shows_ended, shows_stuck_choice, shows_no_choice):
            self.check_each_raises(BadDeal("deal"), NO_DEALS, lambda value: work(value, None))
            for value in NO_PAPERS:
                self.assertIs(False, work(deal=LIKED, value=value))

    def test_ended_and_stuck(self):
        kinds = set()
        for deal in random_deals(991, 26, 3):
            for numbers in all_sets(len(deal)):
                for done in itertools.chain.from_iterable(itertools.combinations(numbers, many) for many in range(len(numbers) + 1)):
                    found = ended(Choice(deal, numbers), done)
                    kinds.add(type(found))
                    shows, other = (shows_ended, shows_stuck_choice) if found else (shows_stuck_choice, shows_ended)
                    self.assertIs(True, shows(deal, found))
                    self.assertIs(True, shows(deal, type(found)(*loosened(found.parts))))
                    self.assertIs(False, other(deal, found))
                    for parts in bent(found.parts):
                        if isinstance(parts, tuple) and len(parts) == 3:
                            right = right_ended(deal, *parts) if found else right_stuck(deal, parts)
                            self.assertIs(right, shows(deal, type(found)(*parts)), parts)
        self.assertEqual({Ended, StuckChoice}, kinds)

    def test_any_row_and_any_sets(self):
        rnd = random.Random(992)
        for deal in random_deals(993, 25, 3):
            for numbers in all_sets(len(deal)):
                for row in itertools.permutations(numbers):
                    for k in range(len(row) + 1):
                        done = tuple(sorted(row[:k]))
                        self.assertIs(right_ended(deal, numbers, done, row[k:]), shows_ended(deal, Ended(numbers, done, row[k:])))
                for _ in range(4):
                    done = tuple(number for number in numbers if rnd.random() < 0.4)
                    within = [one for one in all_sets(len(deal)) if set(done) <= set(one) <= set(numbers)]
                    sets = tuple(rnd.sample(within, rnd.randrange(len(within) + 1)))
                    self.assertIs(right_stuck(deal, (numbers, done, sets)), shows_stuck_choice(deal, StuckChoice(numbers, done, sets)))
                    sets = tuple(plain_sets(deal, numbers, done))[::-1]
                    self.assertIs(numbers not in sets, shows_stuck_choice(deal, StuckChoice(numbers, done, sets)))

    def test_more_sets_than_are_reached(self):
        deal = Deal(LIKED.swap, Bounds.alike(2, 9, 9), [(0, 1)])
        self.assertIs(False, shows_stuck_choice(deal, StuckChoice([0, 1], [], [[]])))
        never = LIKED.with_bounds(Bounds.zero(2))
        self.assertIs(True, shows_stuck_choice(never, StuckChoice([0, 1], [0], [])))
        for sets in ([[]], [[0]], [[0, 1]], [[1]]):
            self.assertIs(False, shows_stuck_choice(never, StuckChoice([0, 1], [0], sets)))
        self.assertIs(True, shows_stuck_choice(never, StuckChoice([1, 0][::-1], [], [[]])))
        self.assertIs(False, shows_stuck_choice(never, StuckChoice([1, 0], [], [[]])))

    def test_no_choice(self):
        tried = 0
        for deal, done in done_deals(994, 200):
            found = drawn_out(deal, done)
            if found is None:
                for name in deal.swap.strangers:
                    self.assertIs(False, shows_no_choice(deal, NoChoice(done, name, 0)))
                continue
            tried += 1
            value = NoChoice(done, found[0], Ratio(*found[1].as_integer_ratio()))
            self.assertIs(True, shows_no_choice(deal, value))
            for work in DONE_SHOWS:
                self.assertIs(False, work(deal, done, value))
            self.assertIs(False, shows_gainful_most(deal, value))
            for parts in bent(value.parts):
                if isinstance(parts, tuple) and len(parts) == 3:
                    self.assertIs(right_none(deal, parts), shows_no_choice(deal, NoChoice(*parts)), parts)
        self.assertGreater(tried, 10)

    def test_no_size_is_refused(self):
        deal = many_hands(40)
        every = list(range(40))
        self.assertIs(True, shows_ended(deal, Ended(every, [], every[::-1])))
        self.assertIs(True, shows_ended(deal, Ended(every, every[:20], every[20:])))
        self.assertIs(False, shows_ended(deal, Ended(every, every[:20], every[19:])))
        tight = many_hands(40, Bounds.zero(2))
        self.assertIs(True, shows_stuck_choice(tight, StuckChoice(every, [], [[]])))
        self.assertIs(False, shows_stuck_choice(deal, StuckChoice(every, [], [[]])))
        self.assertIs(True, shows_no_choice(tight, NoChoice([0], "ann", 2)))


class BestTest(Case):
    def test_wrong_values(self):
        for work in DONE_SHOWS:
            self.check_each_raises(BadDeal("deal"), NO_DEALS, lambda value: work(value, None, None))
            self.check_each_raises(BadDone("done"), NO_DONE, lambda value: work(LIKED, value, None))
            self.check_raises(NoHand(2), work, LIKED, [0, 0, 2], None)
            self.check_raises(Twice(0), work, deal=LIKED, done=[0, 0], value=None)
            for value in NO_PAPERS:
                self.assertIs(False, work(LIKED, [0], value))
        self.check_each_raises(BadDeal("deal"), NO_DEALS, lambda value: shows_gainful_most(value, None))
        for value in NO_PAPERS:
            self.assertIs(False, shows_gainful_most(deal=LIKED, value=value))

    def test_bent_papers(self):
        for deal, done in done_deals(995, 20, 3):
            if drawn_out(deal, done) is not None:
                done = ()
            told = choices_with(deal, done)
            for found, shows, right in (
                (most_chosen(deal, done), lambda value: shows_most(deal, done, value),
                 lambda parts: right_best(deal, done, told, True, parts)),
                (brings_most(deal, done), lambda value: shows_brings_most(deal, done, value),
                 lambda parts: right_best(deal, done, told, False, parts)),
                (gainful_most(deal), lambda value: shows_gainful_most(deal, value),
                 lambda parts: right_best(deal, (), gainful_in(deal), False, parts)),
                (choice_front(deal, done), lambda value: shows_choice_front(deal, done, value),
                 lambda parts: right_front(deal, done, parts)),
            ):
                self.assertIs(True, shows(found))
                self.assertIs(True, right(found.parts))
                for parts in bent_best(found):
                    if isinstance(parts, tuple) and len(parts) == len(found.parts):
                        self.assertIs(right(parts), shows(type(found)(*parts)), parts)

    def test_others_in_any_order_and_more_than_needed(self):
        tried = 0
        for deal, done in done_deals(996, 60, 4):
            if drawn_out(deal, done) is not None:
                continue
            stuck = [
                found for found in (ended(Choice(deal, numbers), done) for numbers in choices_with(deal, done)) if not found
            ]
            best, most, front = brings_most(deal, done), most_chosen(deal, done), choice_front(deal, done)
            for others in (stuck, stuck[::-1], stuck + stuck[:1]):
                self.assertIs(True, shows_brings_most(deal, done, Best(best.numbers, best.row, others)))
                self.assertIs(True, shows_most(deal, done, Best(most.numbers, most.row, others)))
                self.assertIs(True, shows_choice_front(deal, done, ChoiceFront(front.points[::-1], others)))
            tried += len(stuck) > len(best.others)
            wrong = [*stuck, StuckChoice(best.numbers, done, [done])]
            self.assertIs(False, shows_brings_most(deal, done, Best(best.numbers, best.row, wrong)))
            for place in range(len(best.others)):
                less = best.others[:place] + best.others[place + 1:]
                self.assertIs(False, shows_brings_most(deal, done, Best(best.numbers, best.row, less)))
        self.assertGreater(tried, 5)

    def test_a_choice_that_is_not_the_best(self):
        for deal, done in done_deals(997, 40, 3):
            told = choices_with(deal, done)
            best = most_chosen(deal, done)
            for numbers in told:
                found = ended(Choice(deal, numbers), done)
                if found and best:
                    value = Best(numbers, found.row, best.others)
                    self.assertIs(numbers == best.numbers, shows_most(deal, done, value))
                    self.assertIs(right_best(deal, done, told, False, value.parts), shows_brings_most(deal, done, value))
                    self.assertIs(right_best(deal, (), gainful_in(deal), False, value.parts), shows_gainful_most(deal, value))

    def test_points_told_twice_bettered_or_left_out(self):
        bettered = 0
        for deal, done in done_deals(998, 40, 3):
            found = choice_front(deal, done)
            if not found:
                continue
            for place, point in enumerate(found.points):
                less = found.points[:place] + found.points[place + 1:]
                for points in (less, (*found.points, point)):
                    self.assertIs(right_front(deal, done, (points, found.others)), shows_choice_front(deal, done, ChoiceFront(points, found.others)))
                self.assertIs(False, shows_choice_front(deal, done, ChoiceFront((*found.points, point), found.others)))
            chosen = [numbers for numbers, _ in found.points]
            for one in doable(deal, done):
                points = (*found.points, (one.numbers, one.row))
                self.assertIs(False, shows_choice_front(deal, done, ChoiceFront(points, found.others)))
                bettered += one.numbers not in chosen
        self.assertGreater(bettered, 10)

    def test_seven_hand_overs(self):
        for many in (6, 7, 40):
            deal, every = many_hands(many), tuple(range(many))
            self.assertIs(many == 6, shows_most(deal, (), Best(every, every, ())))
            self.assertIs(many == 6, shows_brings_most(deal, (), Best(every, every, ())))
            self.assertIs(many == 6, shows_gainful_most(deal, Best(every, every, ())))
            self.assertIs(False, shows_choice_front(deal, (), ChoiceFront([(every, every)], ())))
            gift = Deal(many_hands(many).swap * Ratio(1, 2), Bounds.alike(2, None, None))
            self.assertIs(many == 6, shows_most(gift, every, Best(every, (), ())))
            self.assertIs(many == 6, shows_choice_front(gift, every, ChoiceFront([(every, ())], ())))


if __name__ == "__main__":
    unittest.main()
