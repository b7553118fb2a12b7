"""Plans of what is left of a book, and bounds that are enough for it."""

import random
import unittest

from lastgiver.books import Book
from lastgiver.bounds import Bounds
from lastgiver.check_rows import shows_good, shows_stuck
from lastgiver.deals import Deal
from lastgiver.deeds import Break, Do, Leave, SetPledge
from lastgiver.errors import Alone, BadBook, TooMany
from lastgiver.papers import Paper
from lastgiver.plans import can_end, enough_here, plan, shows_plan
from lastgiver.ratios import Ratio
from lastgiver.roads import enough_bounds
from lastgiver.rows import Good, Stuck, find_row
from lastgiver.swaps import Swap

from support import CUP, ODD, Case, bent, loosened, plain_good_rows, random_deals
from support_books import random_deed, told_by
from test_books import LOW, book_of
from test_stories import NO_BOOKS

NO_PAPERS = [*ODD, 3, [], (), (0, 1), Paper("good", (0, 1)), Good(None), Stuck(None), Good("01"), Stuck("01"), Stuck([None])]


def books(seed, times, hands=4):
    """Books with some deeds in which two or more have stayed."""
    rnd = random.Random(seed)
    for deal in random_deals(seed + 1, times, hands):
        book = Book(deal)
        for _ in range(rnd.randrange(6)):
            told_by(book, random_deed(rnd, deal))
        if len(book.gone) < len(deal.swap.strangers) - 1:
            yield book


def long_book(many, bounds=Bounds.alike(2, None, None)):
    """A book of so many hand-overs."""
    return Book(Deal(Swap(CUP.strangers, (CUP.hands * 20)[:many]), bounds))


def inner(book, paper):
    """The paper of what is left that a paper in the book's numbers tells."""
    places = {number: place for place, number in enumerate(book.waiting)}
    if type(paper) is Good:
        return Good([places[number] for number in paper.row])
    return Stuck([[places[number] for number in done] for done in paper.sets])


class PlanTest(Case):
    def test_wrong_values(self):
        for work in (plan, can_end, enough_here, lambda book: shows_plan(book, None)):
            self.check_each_raises(BadBook("book"), NO_BOOKS, work)
            self.check_raises(Alone(), work, book_of(LOW, Leave("ann")))
            alone = long_book(40)
            alone.leave("bob")
            self.check_raises(Alone(), work, alone)
        self.check_each_raises(BadBook("book"), NO_BOOKS, lambda value: shows_plan(book=value, value=None))

    def test_12_open_and_13(self):
        book = long_book(13)
        for work in (plan, can_end):
            self.check_raises(TooMany("hands", 12), work, book=book)
        self.assertIs(True, shows_plan(book, Good(list(range(13)))))
        self.assertEqual(2, len(enough_here(book)))
        book.breaks(5)
        self.check_same((0, 1, 2, 3, 4, 6, 7, 8, 9, 10, 11, 12), plan(book).row)
        self.assertIs(True, can_end(book=book))
        self.check_raises(TooMany("hands", 12), plan, long_book(40))

    def test_classes(self):
        found = plan(Book(LOW))
        self.check_same((Good, (0, 1)), (type(found), found.row))
        book = book_of(LOW, Do([0]), SetPledge("bob", 1))
        found = plan(book)
        self.check_same((Stuck, ()), (type(found), found.sets))
        self.assertIs(False, can_end(book))
        book.undo()
        self.check_same(((1,), True), (plan(book).row, can_end(book)))
        deal = Deal(Swap.read("a b | a b 9 9 | a b 1 1 | b a 2 2 | a b 9 9 | a b 1 1"), Bounds.alike(2, 0, 0))
        book = book_of(deal, Break(0), Break(3))
        self.check_same(((),), plan(book).sets)
        book.set_trust("a", 1)
        book.set_pledge("b", 1)
        self.check_same(((), (1,), (4,)), plan(book).sets)
        book.set_trust("b", 1)
        book.set_pledge("a", 1)
        self.check_same((1, 2, 4), plan(book).row)

    def test_as_find_row_tells(self):
        kinds = set()
        for book in books(1051, 160):
            left, found = book.left(), plan(book)
            kinds.add(type(found))
            self.assertEqual(find_row(left), inner(book, found))
            self.assertIs(bool(found), can_end(book))
            self.assertIs(True, shows_plan(book, found))
            self.assertIs(True, shows_plan(book, type(found)(*loosened(found.parts))))
            self.assertEqual(enough_bounds(left.swap), enough_here(book))
            if found:
                self.assertIn(inner(book, found).row, plain_good_rows(left))
                twin = book.twin()
                for number in found.row:
                    twin.do(number)
                self.assertEqual((), twin.waiting)
        self.assertEqual({Good, Stuck}, kinds)

    def test_papers_that_are_none(self):
        for value in NO_PAPERS:
            self.assertIs(False, shows_plan(Book(LOW), value))
        self.assertIs(False, shows_plan(book_of(LOW, Do([0])), Good([0])))
        self.assertIs(True, shows_plan(book_of(LOW, Do([0])), Good([1])))
        self.assertIs(False, shows_plan(book_of(LOW, Do([0])), Good([True])))
        self.assertIs(False, shows_plan(book_of(LOW, Do([0])), Good([Ratio(1)])))

    def test_bent_papers(self):
        for book in books(1053, 40, 3):
            found = plan(book)
            for parts in bent(found.parts):
                if isinstance(parts, tuple) and len(parts) == 1:
                    value = type(found)(*parts)
                    self.assertIs(self.is_right(book, value), shows_plan(book, value), parts)

    def is_right(self, book, value):
        """Whether a paper, with its own numbers put back, is shown right of what is left."""
        told = value.parts[0]
        lists = [told] if type(value) is Good else told
        if not isinstance(told, tuple) or not all(isinstance(one, tuple) for one in lists):
            return False
        if not all(type(number) is int and number in book.waiting for one in lists for number in one):
            return False
        return (shows_good if type(value) is Good else shows_stuck)(book.left(), inner(book, value))


if __name__ == "__main__":
    unittest.main()
