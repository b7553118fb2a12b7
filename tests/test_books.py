"""Books: what is done, refused, taken back and left; facts of books."""

import itertools
import random
import unittest

from lastgiver.books import Book
from lastgiver.bounds import Bounds
from lastgiver.deals import Deal, Objection
from lastgiver.deeds import Break, Deed, Do, Leave, SetPledge, SetTrust
from lastgiver.errors import (
    Alone, BadBook, BadBounds, BadDeal, Broken, Done, DrawnOut, LastError, Leans, Left, NoDeed, NoHand, NoStranger, Objected, Twice,
)
from lastgiver.numbered import Rows
from lastgiver.plans import enough_here
from lastgiver.ratios import Ratio
from lastgiver.rows import find_row
from lastgiver.swaps import Swap

from support import CUP, NO_AMOUNTS, NO_DEALS, NO_HANDS, NO_NAMES, NO_NUMBERS, ODD, Case, line, plain_good_rows, random_deals, random_swap
from support_books import PlainBook, random_deed, ratio, state_of, told_by

LOW = Deal(CUP, Bounds((2, 0), (0, 2)))
NO_BOUNDS = [value for value in NO_AMOUNTS if value is not None]
RING = Deal(Swap.ring("ann", "bob", "cay"), Bounds([1, None, 0], [0, 1, 2]), [(0, 2)])


def book_of(deal, *deeds):
    """The book of these deeds."""
    book = Book(deal)
    for deed in deeds:
        book.tell(deed)
    return book


class BookTest(Case):
    def check_refused(self, expected, book, work, *told, **more):
        """The call raises this error, and changes nothing."""
        before = state_of(book)
        twin = book.twin()
        self.check_raises(expected, work, *told, **more)
        self.assertEqual(before, state_of(book))
        self.assertEqual(self.redone(twin), self.redone(book))

    def redone(self, book):
        """The deeds that can be done anew."""
        twin, found = book.twin(), []
        try:
            while True:
                twin.redo()
                found.append(twin.story[-1])
        except NoDeed:
            return found

    def test_wrong_values(self):
        self.check_each_raises(BadDeal("deal"), NO_DEALS, Book)
        self.check_each_raises(BadDeal("deal"), NO_DEALS, lambda value: Book(deal=value))

    def test_at_first(self):
        book = Book(RING)
        self.assertIs(RING, book.deal)
        self.check_same(((), (), (), ()), (book.story, book.done, book.gone, book.lost))
        self.assertEqual(RING.bounds, book.bounds)
        self.check_same((line(0, 0, 0), line(1, 1, 1), (0, 1, 2), ()), (book.sums_now, book.hopes, book.waiting, book.objecting))
        self.check_same((0, []), (len(book), list(book)))
        self.assertEqual(RING, book.left())
        none = Book(Deal(NO_HANDS, Bounds.zero(2)))
        self.check_same((line(0, 0), line(0, 0), ()), (none.sums_now, none.hopes, none.waiting))
        self.assertEqual(none.deal, none.left())

    def test_do(self):
        book = Book(LOW)
        self.assertIsNone(book.do(0))
        self.check_same((((0,),), line(-2, 3), line(1, 1), (1,)), (book.done, book.sums_now, book.hopes, book.waiting))
        self.assertEqual((Do([0]),), book.story)
        self.assertEqual("ann bob | bob ann 2 3 ; 0 0 , 3 2", str(book.left()))
        self.assertIsNone(book.do(1))
        self.check_same((((0,), (1,)), line(1, 1), ()), (book.done, book.sums_now, book.waiting))
        zero = Book(Deal(CUP, Bounds.zero(2)))
        self.assertIsNone(zero.do(1, 0))
        self.check_same((((0, 1),), (0, 1)), (zero.done, zero.story[0].numbers))

    def test_do_refused_for_its_numbers(self):
        book = book_of(RING, SetTrust("cay", None), Do([0]))
        self.check_refused(NoDeed(), book, book.do)
        for value in [*NO_NUMBERS, -1, 3, 10 ** 30]:
            with self.assertRaises(NoHand) as caught:
                book.do(1, 1, value, 7)
            self.assertIs(value, caught.exception.number)
        self.check_refused(NoHand(9), book, book.do, 0, 0, 9)
        self.check_refused(Twice(1), book, book.do, 0, 1, 1, 0)
        self.check_refused(Done(0), book, book.do, 1, 0)

    def test_do_refused_for_what_came_before(self):
        deal = Deal(Swap.read("a b c | a b 1 1 | b c 1 1 | c a 1 1 | a b 1 1 | b a 1 1"), Bounds.alike(3, 9, 9), [(0, 4), (1, 4), (3, 4)])
        book = book_of(deal, Break(3), Leave("c"))
        self.check_refused(Broken(3), book, book.do, 0, 3)
        self.check_refused(Left("c"), book, book.do, 0, 1)
        self.check_refused(Left("c"), book, book.do, 2)
        self.check_refused(Leans(4, 0), book, book.do, 4)
        self.check_refused(Leans(4, 1), book, book.do, 4, 0)
        self.check_refused(Broken(3), book, book.do, 0, 3, 4)
        self.check_refused(Leans(4, 1), book, book.do, 4, 3, 0)
        both = book_of(deal, Leave("c"), Leave("a"))
        self.check_refused(Left("c"), both, both.do, 2)
        self.check_refused(Left("a"), both, both.do, 0)
        gone = book_of(deal, Break(2), Leave("c"), Leave("a"))
        self.check_refused(Broken(2), gone, gone.do, 2)

    def test_several_at_one_moment_that_lean_on_one_another(self):
        deal = Deal(Swap.read("a b | a b 1 1 | a b 1 1 | a b 1 1 | b a 1 1"), Bounds([1, 9], [9, 9]), [(0, 1), (1, 2), (0, 2)])
        book = Book(deal)
        self.check_refused(Leans(2, 0), book, book.do, 2, 3)
        self.check_refused(Leans(2, 0), book, book.do, 2, 1)
        self.check_refused(Leans(2, 1), book, book.do, 2, 0)
        self.check_refused(Objected("a", Ratio(2)), book, book.do, 2, 1, 0)
        self.assertIsNone(book.twin().do(3, 1, 0))
        book.set_trust("a", 3)
        book.do(2, 0, 1)
        self.check_same((((0, 1, 2),), (3,)), (book.done, book.waiting))

    def test_objections_ahead_and_behind(self):
        book = Book(Deal(CUP, Bounds.zero(2)))
        self.check_refused(Objected("ann", Ratio(2)), book, book.do, 0)
        self.check_refused(Objected("ann", Ratio(2)), book, book.do, 1)
        book = book_of(LOW, Do([0]), SetPledge("bob", 1))
        self.assertEqual((Objection("bob", "leaves", Ratio(1)),), book.objecting)
        self.check_refused(Objected("bob", Ratio(1)), book, book.do, 1)
        # Who objects now stands ahead of who would object behind it.
        deal = Deal(Swap.read("a b c | c b 1 3 | b c 1 1 | a c 2 2"), Bounds([0, 9, 9], [9, 1, 9]))
        book = book_of(deal, Do([0]))
        self.check_refused(Objected("a", Ratio(2)), book, book.do, 2)
        book.set_pledge("b", 0)
        self.assertEqual((Objection("b", "leaves", Ratio(1)),), book.objecting)
        self.check_refused(Objected("b", Ratio(1)), book, book.do, 2)
        book.set_trust("a", 2)
        book.set_pledge("b", None)
        self.assertIsNone(book.do(2))

    def test_both_objections_of_one_stranger(self):
        deal = Deal(Swap.read("a b | a b 3 1"), Bounds([9, 9], [3, 9]))
        book = Book(deal)
        self.check_same((), book.objecting)
        book.set_pledge("a", 1)
        self.assertEqual((Objection("a", "leaves", Ratio(2)),), book.objecting)
        self.check_refused(Objected("a", Ratio(2)), book, book.do, 0)
        wide = Book(Deal(deal.swap, Bounds([None, None], [None, None])))
        self.assertIsNone(wide.do(0))

    def test_leave(self):
        book = Book(RING)
        for value in [*NO_NAMES, "zed"]:
            with self.assertRaises(NoStranger) as caught:
                book.leave(value)
            self.assertIs(value, caught.exception.name)
        self.assertIsNone(book.leave(name="cay"))
        self.check_same((("cay",), (0,), line(0, 0, 0), line(-1, 2, 0)), (book.gone, book.waiting, book.sums_now, book.hopes))
        self.check_refused(Left("cay"), book, book.leave, "cay")
        book.leave("ann")
        self.check_same((("cay", "ann"), ()), (book.gone, book.waiting))
        self.check_raises(Alone(), book.left)
        book.leave("bob")
        self.check_same((("cay", "ann", "bob"), ()), (book.gone, book.objecting))
        self.check_raises(Alone(), book.left)
        self.assertEqual((Leave("cay"), Leave("ann"), Leave("bob")), book.story)

    def test_who_left_objects_no_more(self):
        book = book_of(LOW, Do([0]), SetPledge("bob", 1))
        book.leave("bob")
        self.assertEqual((), book.waiting)
        self.assertEqual((), book.objecting)
        self.check_same((line(-2, 3), line(-2, 3)), (book.sums_now, book.hopes))
        self.check_refused(Left("bob"), book, book.do, 1)

    def test_wishes_to_leave_bar_what_is_done_next(self):
        deal = Deal(Swap.read("a b c | a b 2 3 | c a 0 9"), Bounds.alike(3, 9, 0))
        for deed in (Leave("c"), Break(1)):
            book = Book(deal)
            self.assertEqual((), book.objecting)
            book.tell(deed)
            self.assertEqual((Objection("a", "leaves", Ratio(2)),), book.objecting)
            self.check_refused(Objected("a", Ratio(2)), book, book.do, 0)
            book.set_pledge("a", Ratio(3, 2))
            self.check_refused(Objected("a", Ratio(1, 2)), book, book.do, 0)
            book.set_pledge("a", 2)
            self.assertIsNone(book.do(0))
            book.set_trust("a", None)
            book.set_pledge("a", 0)
            self.assertEqual((), book.objecting)

    def test_breaks(self):
        book = Book(RING)
        for value in [*NO_NUMBERS, -1, 3]:
            with self.assertRaises(NoHand) as caught:
                book.breaks(value)
            self.assertIs(value, caught.exception.number)
        self.assertIsNone(book.breaks(number=2))
        self.check_same(((2,), (0, 1), line(-1, 1, 2)), (book.lost, book.waiting, book.hopes))
        self.check_refused(Broken(2), book, book.breaks, 2)
        book.breaks(0)
        self.check_same(((0, 2), (1,)), (book.lost, book.waiting))
        done = book_of(LOW, Do([0]))
        self.check_refused(Done(0), done, done.breaks, 0)
        # What leans on a broken thing is not open, nor what leans on that.
        chain = Deal(Swap.read("a b | a b 1 1 | a b 1 1 | a b 1 1 | a b 1 1"), Bounds.alike(2, 9, 9), [(2, 1), (1, 0)])
        book = book_of(chain, Break(2))
        self.check_same((3,), book.waiting)
        self.check_refused(Leans(0, 1), book, book.do, 0)
        left = book_of(RING, Leave("cay"), Break(2))
        self.check_same((2,), left.lost)

    def test_set_trust(self):
        book = book_of(LOW, Do([0]))
        for value in [*NO_NAMES, "zed"]:
            with self.assertRaises(NoStranger):
                book.set_trust(value, None)
            with self.assertRaises(NoStranger):
                book.set_pledge(value, -1)
        self.check_each_raises(BadBounds("trust"), NO_BOUNDS, lambda value: book.set_trust("ann", value))
        self.check_each_raises(BadBounds("pledge"), NO_BOUNDS, lambda value: book.set_pledge("ann", value))
        self.check_refused(DrawnOut("ann", Ratio(1, 2)), book, book.set_trust, "ann", Ratio(3, 2))
        self.check_refused(DrawnOut("ann", Ratio(2)), book, book.set_trust, name="ann", trust=0)
        self.assertIsNone(book.set_trust("ann", 2))
        self.assertIsNone(book.set_trust("ann", None))
        self.assertEqual("wide 0 , 0 2", str(book.bounds))
        self.assertIsNone(book.set_trust("bob", 0))
        self.assertIsNone(book.set_pledge(name="ann", pledge=Ratio(1, 3)))
        self.assertEqual("wide 1/3 , 0 2", str(book.bounds))
        self.assertEqual("2 0 , 0 2", str(book.deal.bounds))
        self.assertEqual((Do([0]), SetTrust("ann", 2), SetTrust("ann", None), SetTrust("bob", 0), SetPledge("ann", Ratio(1, 3))), book.story)
        book.leave("ann")
        self.check_refused(Left("ann"), book, book.set_trust, "ann", 0)
        self.check_refused(Left("ann"), book, book.set_pledge, "ann", 0)
        self.check_raises(BadBounds("trust"), book.set_trust, "ann", -1)
        self.check_raises(BadBounds("pledge"), book.set_pledge, "ann", -1)

    def test_tell(self):
        book = Book(LOW)
        wrong = [*ODD, 3, "do 0", (0,), Deed, book, LOW]
        self.check_each_raises(BadBook("deed"), wrong, book.tell)
        for deed in (Do([0]), SetTrust("bob", 3), SetPledge("ann", None), Break(1), Leave("bob")):
            self.assertIsNone(book.tell(deed=deed))
        self.assertEqual((Do([0]), SetTrust("bob", 3), SetPledge("ann", None), Break(1), Leave("bob")), book.story)
        self.check_same((((0,),), ("bob",), (1,), "2 wide , 3 2"), (book.done, book.gone, book.lost, str(book.bounds)))
        self.check_refused(NoHand(7), book, book.tell, Do([7, 1]))
        self.check_refused(NoHand(7), book, book.tell, Break(7))
        self.check_refused(NoStranger("zed"), book, book.tell, Leave("zed"))
        self.check_refused(NoStranger("zed"), book, book.tell, SetPledge("zed", 1))

    def test_undo_and_redo(self):
        book = Book(LOW)
        self.check_refused(NoDeed(), book, book.undo)
        self.check_refused(NoDeed(), book, book.redo)
        deeds = (Do([0]), SetTrust("bob", 3), Break(1), SetPledge("ann", None), Leave("bob"))
        states = [state_of(book)]
        for deed in deeds:
            book.tell(deed)
            states.append(state_of(book))
        for state in states[-2::-1]:
            self.assertIsNone(book.undo())
            self.assertEqual(state, state_of(book))
        self.check_refused(NoDeed(), book, book.undo)
        for state in states[1:]:
            self.assertIsNone(book.redo())
            self.assertEqual(state, state_of(book))
        self.check_refused(NoDeed(), book, book.redo)

    def test_redo_behind_another_deed(self):
        book = book_of(LOW, SetTrust("bob", 3), Do([0]))
        book.undo()
        book.undo()
        book.redo()
        self.assertEqual((SetTrust("bob", 3),), book.story)
        self.check_raises(Done(0), book_of(LOW, Do([0])).do, 0)
        self.check_refused(NoHand(9), book, book.do, 9)
        book.redo()
        self.assertEqual((SetTrust("bob", 3), Do([0])), book.story)
        book.undo()
        book.set_trust("bob", 4)
        self.check_refused(NoDeed(), book, book.redo)
        book.undo()
        book.redo()
        self.assertEqual((SetTrust("bob", 3), SetTrust("bob", 4)), book.story)

    def test_twin(self):
        book = book_of(LOW, SetTrust("bob", 3), Do([0]), Leave("bob"))
        book.undo()
        twin = book.twin()
        self.assertIs(Book, type(twin))
        self.assertEqual(state_of(book), state_of(twin))
        twin.redo()
        self.check_same((3, 2), (len(twin), len(book)))
        book.undo()
        book.undo()
        self.check_same((3, 0), (len(twin), len(book)))
        book.redo()
        book.redo()
        book.redo()
        self.assertEqual(state_of(book), state_of(twin))
        twin.undo()
        self.assertFalse(book == twin)

    def test_tried(self):
        book = book_of(LOW, SetTrust("bob", 3), Do([0]), Leave("bob"))
        book.undo()
        before, again = state_of(book), self.redone(book)

        def work(told):
            told.do(1)
            told.undo()
            told.undo()
            told.set_pledge("ann", 9)
            told.leave("ann")
            return [told is book, len(told), told.gone]

        self.assertEqual([True, 3, ("ann",)], book.tried(work))
        self.assertEqual((before, again), (state_of(book), self.redone(book)))
        self.assertIsNone(book.tried(work=lambda told: told.redo()))
        self.assertEqual((before, again), (state_of(book), self.redone(book)))

        def fails(told):
            work(told)
            told.do(7)

        self.check_refused(NoHand(7), book, book.tried, fails)
        with self.assertRaises(ZeroDivisionError):
            book.tried(lambda told: told.undo() or 1 // 0)
        self.assertEqual((before, again), (state_of(book), self.redone(book)))
        self.assertEqual(3, book.tried(lambda told: told.tried(work)[1]))
        self.assertEqual((before, again), (state_of(book), self.redone(book)))

    def test_equality(self):
        self.check_equality(lambda: book_of(LOW, SetTrust("bob", 3), Do([0])), [
            Book(LOW), book_of(LOW, Do([0]), SetTrust("bob", 3)), book_of(LOW, SetTrust("bob", 3)), book_of(LOW, SetTrust("bob", 2), Do([0])),
            book_of(LOW.with_bounds(Bounds((2, 3), (0, 2))), SetTrust("bob", 3), Do([0])), LOW,
        ])
        undone = book_of(LOW, Do([0]))
        undone.undo()
        self.assertTrue(undone == Book(Deal.read(str(LOW))))

    def test_iteration(self):
        book = book_of(LOW, SetTrust("bob", 3), Do([0]))
        self.assertEqual([SetTrust("bob", 3), Do([0])], list(book))
        self.assertEqual(2, len(book))

    def test_left_with_leanings_and_wide_bounds(self):
        deal = Deal(Swap.read("a b c | a b 1 2 | b c 1 2 | c a 1 2 | a b 2 2"), Bounds([2, None, 1], [None, 3, 4]), [(0, 1), (1, 3), (0, 3), (2, 3)])
        book = book_of(deal, Do([0]), SetTrust("c", 5))
        self.assertEqual("a b c | b c 1 2 | c a 1 2 | a b 2 2 ; 1 wide , wide 3 , 5 4 ; 0 2 , 1 2", str(book.left()))
        book.leave("c")
        self.assertEqual("a b ; 1 wide , wide 3", str(book.left()))


class PlainTest(Case):
    def test_against_a_plain_book(self):
        rnd = random.Random(1021)
        kinds = {}
        for deal in random_deals(1022, 130, 5):
            book = Book(deal)
            for _ in range(12):
                deed, plain = random_deed(rnd, deal), PlainBook(deal, book.story)
                expected, before, found = plain.refusal(deed), state_of(book), told_by(book, deed)
                self.check_same(expected and vars(expected), found and vars(found))
                self.assertIs(type(expected), type(found))
                kinds[type(found)] = kinds.get(type(found), 0) + 1
                if found is not None:
                    self.assertEqual(before, state_of(book))
                plain = PlainBook(deal, book.story)
                self.assertEqual([ratio(one) for one in plain.sums()], list(book.sums_now))
                self.assertEqual([ratio(one) for one in plain.hopes()], list(book.hopes))
                self.check_same((plain.waiting(), tuple(plain.lost()), tuple(plain.gone())), (book.waiting, book.lost, book.gone))
                self.assertEqual(plain.objecting(), book.objecting)
                told = [(None if trust is None else ratio(trust), None if pledge is None else ratio(pledge)) for trust, pledge in plain.bounds()]
                self.assertEqual(told, list(zip(book.bounds.trusts, book.bounds.pledges)))
                self.assertTrue(all(one.side == "leaves" for one in book.objecting))
                if len(plain.gone()) < len(deal.swap.strangers) - 1:
                    self.assertEqual(plain.left(), book.left())
                else:
                    self.check_raises(Alone(), book.left)
        self.assertTrue({type(None), Done, Broken, Left, Leans, Objected, DrawnOut} <= set(kinds), kinds)

    def test_numbers_in_the_order_told(self):
        rnd = random.Random(1023)
        for deal in [deal for deal in random_deals(1024, 80, 5) if len(deal) > 1]:
            book = Book(deal)
            for _ in range(6):
                told_by(book, random_deed(rnd, deal))
            for _ in range(6):
                numbers = rnd.sample(range(len(deal)), rnd.randrange(1, len(deal) + 1))
                expected = PlainBook(deal, book.story).refused_do(numbers)
                twin = book.twin()
                try:
                    twin.do(*numbers)
                    self.assertIsNone(expected)
                    self.check_same(tuple(sorted(numbers)), twin.done[-1])
                except LastError as error:
                    self.assertIs(type(expected), type(error))
                    self.check_same(vars(expected), vars(error))


class FactsTest(Case):
    def books(self, seed, times, hands=4):
        """Books with some deeds in which two or more have stayed."""
        rnd = random.Random(seed)
        for deal in random_deals(seed + 1, times, hands):
            book = Book(deal)
            for _ in range(rnd.randrange(6)):
                told_by(book, random_deed(rnd, deal))
            if len(book.gone) < len(deal.swap.strangers) - 1:
                yield book

    def test_the_nets_of_what_is_left(self):
        for book in self.books(1031, 150):
            left = book.left()
            hopes, sums = dict(zip(book.deal.swap.strangers, book.hopes)), dict(zip(book.deal.swap.strangers, book.sums_now))
            for name in left.swap.strangers:
                self.assertEqual(hopes[name] - sums[name], left.swap.net(name))
            self.assertEqual(left.objections(()), book.objecting)

    def test_rows_of_what_is_left(self):
        kinds = set()
        for book in self.books(1033, 130):
            left, waiting = book.left(), book.waiting
            good = set(plain_good_rows(left))
            for row in itertools.permutations(range(len(waiting))):
                twin = book.twin()
                done = [told_by(twin, Do([waiting[place]])) is None for place in row]
                if len(row) > 0:
                    kinds.add(all(done))
                    self.assertIs(row in good, all(done))

    def test_do_leaves_the_hopes_as_they_are(self):
        for book in self.books(1035, 80):
            for number in book.waiting:
                twin = book.twin()
                if told_by(twin, Do([number])) is None:
                    self.assertEqual(book.hopes, twin.hopes)
                    if not find_row(book.left()):
                        self.assertFalse(find_row(twin.left()))

    def test_enough_bounds_of_what_is_left(self):
        rnd = random.Random(1037)
        tried = 0
        for _ in range(150):
            swap = random_swap(rnd, rnd.choice([2, 3]), rnd.randrange(1, 6))
            book = Book(Deal(swap, Bounds.alike(len(swap.strangers), None, None)))
            for _ in range(rnd.randrange(3)):
                told_by(book, Do([rnd.randrange(len(swap))]))
            if rnd.random() < 0.4 and len(swap.strangers) > 2:
                book.leave(rnd.choice(swap.strangers))
            needs = enough_here(book)
            for name, trust, pledge in zip(book.left().swap.strangers, needs.trusts, needs.pledges):
                now = book.sums_now[swap.strangers.index(name)]
                told = trust - now
                book.set_trust(name, told if told.sign > 0 else 0)
                book.set_pledge(name, pledge)
            if book.left().bounds.covers(needs):
                tried += 1
                self.assertTrue(Rows(book.left()))
        self.assertGreater(tried, 50)

    def test_nobody_is_ever_drawn_out(self):
        for book in self.books(1038, 80):
            self.assertTrue(all(one.side == "leaves" for one in book.objecting))
            for deed in book.story:
                self.assertIsInstance(deed, Deed)


if __name__ == "__main__":
    unittest.main()
