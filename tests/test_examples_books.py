"""Every example of the document's sections on choices, books, plans and the desk, as a test of its own."""

from lastgiver.books import Book
from lastgiver.bounds import Bounds
from lastgiver.deals import Deal
from lastgiver.desk import Desk
from lastgiver.doable import most_chosen
from lastgiver.errors import BadLine, BadText, NoHand, Objected
from lastgiver.plans import can_end, plan
from lastgiver.ratios import Ratio
from lastgiver.swaps import HandOver, Swap

from support import Case

cup = Swap(["ann", "bob"], [HandOver("ann", "bob", 2, 3), HandOver("bob", "ann", 2, 3)])
LINES = (
    "put cup swap ann bob | ann bob 2 3 | bob ann 2 3", "put low bounds 2 0 , 0 2", "deal d cup low", "row d", "walk d 1 0", "book b d",
    "tell b do 0", "tell b pledge bob 1", "objecting b", "plan b",
)


class ExamplesTest(Case):
    def told(self, expected, found):
        """The results, written as in the document."""
        self.assertEqual(expected, repr(found))

    def test_choices(self):
        best = most_chosen(Deal(cup, Bounds([2, 2], [2, 1])), [0])
        self.told("[(0,), (), ((0, 1), (0,), ())]", [best.numbers, best.row, best.others[0].parts])

    def test_books(self):
        book = Book(Deal(cup, Bounds((2, 0), (0, 2))))
        book.do(0)
        found = [book.sums_now, book.hopes, book.waiting, str(book.left())]
        self.told("[(-2, 3), (1, 1), (1,), 'ann bob | bob ann 2 3 ; 0 0 , 3 2']", found)

    def test_books_with_a_pledge_that_fell(self):
        book = Book(Deal(cup, Bounds((2, 0), (0, 2))))
        book.do(0)
        book.set_pledge("bob", 1)
        self.told("[1, 'bob leaves 1']", [len(book.objecting), str(book.objecting[0])])
        self.check_raises(Objected("bob", Ratio(1)), book.do, 1)

    def test_plans(self):
        # The document tells True of a book whose bob objects; by its words that is so ahead of the pledge that fell.
        book = Book(Deal(cup, Bounds((2, 0), (0, 2))))
        book.do(0)
        self.told("[(0, 1), True]", [plan(Book(Deal(cup, Bounds((2, 0), (0, 2))))).row, can_end(book)])
        book.set_pledge("bob", 1)
        self.assertIs(False, can_end(book))

    def test_desks(self):
        self.told("('ok', 'ok', 'ok', '0 1', '1', '0 1', '1', '1', 'bob leaves 1', 'stuck')", Desk().told(*LINES))

    def test_desks_undone(self):
        desk = Desk()
        desk.told(*LINES)
        self.told("['tell b pledge bob 1', '1', ['b', 'cup', 'd', 'low']]", [desk.undo(), desk("plan b"), list(desk)])

    def test_lines_that_are_none(self):
        desk = Desk()
        desk.told(*LINES)
        self.check_raises(BadText(0, 2), desk, "least d cup")

    def test_told_calls_that_fail(self):
        desk = Desk()
        desk.told(*LINES)
        with self.assertRaises(BadLine) as caught:
            desk.told("drop low", "tell b do 7")
        self.assertEqual((1, NoHand, 7), (caught.exception.line, type(caught.exception.error), caught.exception.error.number))
        self.assertIn("low", desk)
