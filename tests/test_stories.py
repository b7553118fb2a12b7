"""Stories told anew, and two of them put together."""

import random
import unittest

from lastgiver.books import Book
from lastgiver.bounds import Bounds
from lastgiver.deals import Deal
from lastgiver.deeds import Break, Deed, Do, Leave, SetPledge, SetTrust
from lastgiver.errors import BadBook, BadDeal, BadStory, NoDeed, Unlike
from lastgiver.stories import merged, replay

from support import CUP, NO_DEALS, NO_LISTS, ODD, Case, random_deals
from support_books import random_deed, state_of, told_by
from test_books import LOW, book_of

NO_BOOKS = [*ODD, 3, LOW, [], (Do([0]),), "do 0"]


def random_book(rnd, book, many):
    """A twin of a book with some deeds more."""
    twin = book.twin()
    for _ in range(many):
        told_by(twin, random_deed(rnd, book.deal))
    return twin


class ReplayTest(Case):
    def test_wrong_values(self):
        self.check_each_raises(BadDeal("deal"), NO_DEALS, lambda value: replay(value, None))
        wrong = [*NO_LISTS, [None], [Do([0]), "do 1"], (Do([0]), 1), [[Do([0])]], "do 0", Book(LOW), Do([0]), [Deed]]
        self.check_each_raises(BadStory("story"), wrong, lambda value: replay(LOW, value))

    def test_the_first_that_is_refused(self):
        for story, place in [
            ([Do([1])], 0), ([Do([0]), Do([0])], 1), ([SetTrust("ann", 3), Leave("zed"), Do([7])], 1), ((Break(0), Break(1), Break(2)), 2),
            ([Leave("ann"), SetPledge("ann", 1)], 1), ([Do([0]), SetTrust("ann", 1)], 1),
        ]:
            self.check_raises(BadStory(place), replay, deal=LOW, story=story)
        self.check_raises(BadStory("story"), replay, LOW, [Do([1]), None])

    def test_stories_told_anew(self):
        self.assertEqual(Book(LOW), replay(LOW, []))
        rnd = random.Random(1041)
        for deal in random_deals(1042, 60, 4):
            book = random_book(rnd, Book(deal), 6)
            story = list(book.story)
            found = replay(deal, story)
            self.assertIs(Book, type(found))
            self.assertEqual(state_of(book), state_of(found))
            story.append(None)
            self.assertEqual(book, found)
            self.assertEqual(found, replay(deal, found.story))
            self.check_raises(NoDeed(), found.redo)


class MergedTest(Case):
    def test_wrong_values(self):
        self.check_each_raises(BadBook("one"), NO_BOOKS, lambda value: merged(value, None))
        self.check_each_raises(BadBook("other"), NO_BOOKS, lambda value: merged(Book(LOW), value))
        other = Book(Deal(CUP, Bounds((2, 0), (0, 3))))
        self.check_raises(Unlike("deals"), merged, one=Book(LOW), other=other)

    def test_stories_that_begin_alike(self):
        one = book_of(LOW, SetTrust("ann", 3), Do([0]), SetPledge("bob", 4), Do([1]))
        other = book_of(LOW, SetTrust("ann", 3), Do([0]), Do([1]), SetTrust("bob", 7), Leave("ann"))
        found, refused = merged(one, other)
        told = (SetTrust("ann", 3), Do([0]), SetPledge("bob", 4), Do([1]), SetTrust("bob", 7), Leave("ann"))
        self.check_same((told, (2,)), (found.story, refused))
        found, refused = merged(other, one)
        told = (SetTrust("ann", 3), Do([0]), Do([1]), SetTrust("bob", 7), Leave("ann"), SetPledge("bob", 4))
        self.check_same((told, (3,)), (found.story, refused))
        self.check_same((4, 5), (len(one), len(other)))

    def test_alike_and_empty(self):
        one = book_of(LOW, Do([0]), Break(1))
        for other in (one, one.twin(), book_of(LOW, Do([0])), Book(LOW)):
            found, refused = merged(one, other)
            self.check_same((one.story, ()), (found.story, refused))
            self.assertIsNot(found, one)
            self.assertEqual(one, merged(other, one)[0])
        found.undo()
        self.check_same(2, len(one))

    def test_deeds_alike_further_on_are_told_again(self):
        one, other = book_of(LOW, SetTrust("ann", 3), Do([0])), book_of(LOW, Do([0]), SetTrust("ann", 3))
        found, refused = merged(one, other)
        self.check_same(((SetTrust("ann", 3), Do([0]), SetTrust("ann", 3)), (0,)), (found.story, refused))

    def test_by_telling_them_one_by_one(self):
        rnd = random.Random(1043)
        many = 0
        for deal in random_deals(1044, 100, 4):
            begun = random_book(rnd, Book(deal), 3)
            one, other = random_book(rnd, begun, 4), random_book(rnd, begun, 4)
            before = state_of(one), state_of(other)
            found, refused = merged(one, other)
            same = 0
            while same < min(len(one), len(other)) and one.story[same] == other.story[same]:
                same += 1
            book = replay(deal, one.story)
            told = [place for place in range(same, len(other)) if told_by(book, other.story[place]) is not None]
            self.check_same(tuple(told), refused)
            self.assertEqual(state_of(book), state_of(found))
            self.assertEqual(before, (state_of(one), state_of(other)))
            self.assertEqual((found, refused), merged(one, other))
            many += len(refused)
        self.assertGreater(many, 10)


if __name__ == "__main__":
    unittest.main()
