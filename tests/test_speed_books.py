"""Answers on choices, changes, books and desks at the largest sizes, and refusals by size, come in a short time."""

import random
import time
import unittest

from lastgiver.books import Book
from lastgiver.bounds import Bounds
from lastgiver.changed import adding, capping, idling, ordering, renaming, scaling, seating
from lastgiver.check_choices import (
    shows_brings_most, shows_choice_front, shows_ended, shows_gainful_most, shows_most, shows_stuck_choice,
)
from lastgiver.choices import Choice, choices
from lastgiver.deals import Deal
from lastgiver.deeds import Do, SetPledge
from lastgiver.desk import Desk
from lastgiver.doable import brings_most, choice_front, doable, ended, gainful_most, most_chosen
from lastgiver.errors import LastError, TooMany
from lastgiver.plans import can_end, enough_here, plan, shows_plan
from lastgiver.ratios import Ratio
from lastgiver.stories import merged, replay
from lastgiver.swaps import HandOver, Swap

from support import Case
from test_speed import NAMES, large, large_swap
from test_speed_ways import tight


class SpeedTest(Case):
    def setUp(self):
        self.began = time.perf_counter()

    def tearDown(self):
        self.assertLess(time.perf_counter() - self.began, 5)

    def deals(self, rnd, many):
        """Deals of so many hand-overs and large ratios, all, some, or few sets allowed."""
        swap = large_swap(rnd, many)
        return [
            Deal(swap, Bounds.alike(6, None, None)), Deal(swap, Bounds.alike(6, 10 ** 4, 10 ** 4), [(0, many - 1), (2, 1)]),
            Deal(swap, tight(swap, Ratio(1, 3))), Deal(swap, Bounds.zero(6)),
        ]

    def test_choices_of_6_hand_overs(self):
        for deal in self.deals(random.Random(141), 6):
            self.assertEqual(64, len(list(choices(deal))))
            self.assertGreater(len(list(doable(deal))), 0)
            self.assertTrue(shows_most(deal, (), most_chosen(deal)))
            self.assertTrue(shows_brings_most(deal, (), brings_most(deal)))
            self.assertTrue(shows_gainful_most(deal, gainful_most(deal)))
            self.assertTrue(shows_choice_front(deal, (), choice_front(deal)))

    def test_choices_with_12_left(self):
        for deal in self.deals(random.Random(142), 40):
            for done in ((), tuple(range(20, 28))):
                choice = Choice(deal, list(range(4, 16)) + list(done))
                found = ended(choice, done)
                self.assertTrue((shows_ended if found else shows_stuck_choice)(deal, found))

    def test_changes_of_40_hand_overs(self):
        rnd = random.Random(143)
        deal = Deal(Swap(NAMES[:5], [HandOver(*rnd.sample(NAMES[:5], 2), large(rnd), large(rnd)) for _ in range(39)]), Bounds.alike(5, 10 ** 9, None))
        change = renaming(deal, dict(zip(NAMES, "pqrst")))
        change = change * seating(change.deal, rnd.sample("pqrst", 5))
        change = change * ordering(change.deal, rnd.sample(range(39), 39))
        change = change * scaling(change.deal, large(rnd))
        change = change * adding(change.deal, "kin")
        change = change * capping(change.deal)
        change = change * idling(change.deal, "kin", "p")
        self.assertEqual(40, len(change.row_after(tuple(range(39)))))
        self.assertEqual(tuple(range(39)), change.row_before(change.row_after(tuple(range(39)))))
        self.assertEqual(change.deal.swap.nets, change.line_after(deal.swap.nets))

    def test_a_book_of_40_hand_overs(self):
        rnd = random.Random(144)
        deal = Deal(large_swap(rnd, 40), Bounds.alike(6, 10 ** 9, 10 ** 9), [(number, number + 1) for number in range(39)])
        book = Book(deal)
        for number in range(40):
            book.do(number)
            self.assertEqual(39 - number, len(book.waiting))
            self.assertEqual((), book.objecting)
            self.assertEqual(39 - number, len(book.left()))
        while len(book) > 28:
            book.undo()
        self.assertTrue(shows_plan(book, plan(book)))
        self.assertTrue(can_end(book))
        self.assertEqual(6, len(enough_here(book)))
        self.assertEqual((book, ()), merged(book, book))

    def test_a_long_story(self):
        deal = self.deals(random.Random(145), 12)[0]
        story = [SetPledge(NAMES[place % 6], place) for place in range(600)] + [Do([number]) for number in range(12)]
        book = replay(deal, story)
        self.assertEqual(612, len(book))
        for _ in range(612):
            book.undo()
        for _ in range(612):
            book.redo()
        self.assertEqual(tuple(story), book.story)
        found, refused = merged(book, replay(deal, story[1:]))
        self.assertEqual((1211, 12), (len(found), len(refused)))

    def test_a_desk(self):
        rnd = random.Random(146)
        desk = Desk()
        for place in range(150):
            desk.told(f"put s{place} swap {large_swap(rnd, 6)}", "put b bounds wide wide" + " , wide wide" * 5, f"deal d s{place} b", "book k d", "tell k do 0")
        self.assertEqual(750, len(desk.deed_lines()))
        self.assertEqual("720", desk("count d"))
        for _ in range(750):
            desk.undo()
        self.assertEqual(Desk(), desk)
        with self.assertRaises(LastError):
            desk.told(*[f"put n{place} swap a b" for place in range(400)], "zed")
        self.assertEqual(0, len(desk))

    def test_refusals_by_size(self):
        for many in (7, 40):
            for deal in self.deals(random.Random(147), many):
                for work in (lambda told: list(choices(told)), lambda told: list(doable(told)), most_chosen, brings_most, gainful_most, choice_front):
                    self.check_raises(TooMany("hands", 6), work, deal)
        deal = self.deals(random.Random(148), 40)[0]
        self.check_raises(TooMany("hands", 12), ended, Choice.whole(deal))
        self.check_raises(TooMany("hands", 12), plan, Book(deal))
        self.check_raises(TooMany("hands", 40), idling, deal, *NAMES[:2])
        self.check_raises(TooMany("strangers", 6), adding, deal, "kin")


if __name__ == "__main__":
    unittest.main()
