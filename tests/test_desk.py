"""The desk: each line beside the function that it names, undo, told calls that fail, and what it keeps."""

import random
import unittest

from lastgiver.books import Book
from lastgiver.bounds import Bounds
from lastgiver.deals import Deal
from lastgiver.deeds import Do, Leave, SetPledge
from lastgiver.desk import Desk
from lastgiver.dials import Dial
from lastgiver.doable import most_chosen
from lastgiver.errors import (
    Alone, BadLine, BadNumber, BadRow, BadText, Below, Done, LastError, Leans, Loser, NoDeed, NoHand, NoStranger, NoWay, Objected, TooMany,
    Unlike,
)
from lastgiver.fine import fine
from lastgiver.fitting import least_pieces
from lastgiver.fronts import front
from lastgiver.groups import least_group
from lastgiver.least import least
from lastgiver.numbered import Rows
from lastgiver.patience import patience
from lastgiver.plans import enough_here, plan
from lastgiver.plays import played
from lastgiver.ratios import Ratio
from lastgiver.reader import form_of
from lastgiver.rows import find_row
from lastgiver.stories import merged
from lastgiver.swaps import Swap
from lastgiver.together import classes
from lastgiver.turned_deals import exchanged, handed_back_deal
from lastgiver.walked import RowWalk

from support import CUP, NO_NAMES, ODD, Case, random_deals
from support_books import random_deed, state_of, told_by
from test_books import book_of

SWAP = "ann bob | ann bob 2 3 | bob ann 2 3"
LINES = ("put cup swap " + SWAP, "put low bounds 2 0 , 0 2", "deal d cup low", "book b d", "tell b do 0")


def told_desk(*lines):
    """A desk that was told these lines, or those of the examples."""
    desk = Desk()
    desk.told(*(lines or LINES))
    return desk


def whole_state(desk):
    """All that a desk tells of itself."""
    kept = {name: desk.value_of(name) for name in desk}
    told = {name: (form_of(value), state_of(value) if type(value) is Book else str(value)) for name, value in kept.items()}
    return told, list(desk), len(desk), desk.deed_lines()


def answer_or_error(work):
    """What a call returns, or the class and the fields of the error that it raises."""
    try:
        return work()
    except LastError as error:
        return type(error), vars(error)


def in_turn(items):
    return " ".join(map(str, items)) or "-"


def apart(items):
    return " , ".join(map(str, items)) or "-"


class DeedLinesTest(Case):
    def test_put(self):
        desk = Desk()
        for form, text, kind in [
            ("swap", SWAP, Swap), ("bounds", "2 0 , wide 1/2", Bounds), ("deal", SWAP + " ; 2 0 , 0 2 ; 0 1", Deal), ("dial", "trust ann 1 | pledge", Dial),
        ]:
            self.assertEqual("ok", desk(f"put x {form} {text}"))
            self.assertEqual(kind.read(text), desk.value_of("x"))
            self.assertEqual(text, desk("show x"))
        self.assertEqual(1, len(desk))

    def test_drop(self):
        desk = told_desk()
        self.assertEqual("ok", desk("drop cup"))
        self.assertEqual(["b", "d", "low"], list(desk))
        self.assertIsNone(desk.value_of("cup"))
        self.check_raises(BadText(0, 1), desk, "drop cup")

    def test_deals(self):
        desk = told_desk()
        deal = Deal(CUP, Bounds((2, 0), (0, 2)))
        self.assertEqual(deal, desk.value_of("d"))
        self.assertEqual(("ok", "ok"), desk.told("exchange e d", "return d d"))
        self.assertEqual((exchanged(deal), handed_back_deal(deal)), (desk.value_of("e"), desk.value_of("d")))
        desk("put three bounds 1 1 , 1 1 , 1 1")
        self.check_raises(Unlike("bounds"), desk, "deal x cup three")
        desk.told("put one swap ann bob | ann bob 2 3", "deal x one low")
        self.check_raises(Below("ann", "leaves", Ratio(2)), desk, "return y x")
        self.assertIsNone(desk.value_of("y"))

    def test_books(self):
        desk = told_desk(*LINES[:3])
        self.assertEqual(("0 1", "1", "0 1", "1", "-", "1"), desk.told(
            "book b d", "tell b do 0", "undo b", "redo b", "tell b do 1", "undo b",
        ))
        self.assertEqual(book_of(desk.value_of("d"), Do([0])), desk.value_of("b"))
        self.assertEqual("-", desk("tell b leave ann"))
        self.check_raises(Alone(), desk, "left l b")
        desk("undo b")
        self.assertEqual("ok", desk("left l b"))
        self.assertEqual("ann bob | bob ann 2 3 ; 0 0 , 3 2", desk("show l"))
        self.check_raises(NoHand(7), desk, "tell b do 7")
        self.check_raises(Done(0), desk, "tell b break 0")
        self.check_raises(NoStranger("zed"), desk, "tell b leave zed")
        self.check_raises(NoDeed(), told_desk(*LINES[:3], "book b d"), "undo b")
        self.check_raises(NoDeed(), told_desk(*LINES), "redo b")

    def test_merge(self):
        desk = told_desk(*LINES, "book c d", "tell c trust ann 9", "tell c do 0")
        self.assertEqual("1", desk("merge m b c"))
        self.assertEqual("do 0 , trust ann 9", desk("show m"))
        self.assertEqual("-", desk("merge m b b"))
        self.assertEqual("do 0", desk("show m"))
        desk("tell b do 1")
        self.assertEqual(("0", "trust ann 9 , do 0 , do 1"), desk.told("merge m c b", "show m"))
        desk.told("put low bounds 3 3 , 3 3", "deal e cup low", "book e e")
        self.check_raises(Unlike("deals"), desk, "merge x b e")

    def test_a_name_that_is_kept_again(self):
        desk = told_desk(*LINES, "left b b", "book cup d", "put d swap a b")
        self.assertEqual(["deal", "book", "swap", "bounds"], [form_of(desk.value_of(name)) for name in ("b", "cup", "d", "low")])
        self.check_raises(BadText(0, 1), desk, "tell b do 1")
        self.check_raises(BadText(0, 2), desk, "deal x cup low")
        self.check_raises(BadText(0, 1), desk, "count d")

    def test_names_that_are_words_of_lines(self):
        desk = told_desk("put put swap " + SWAP, "put show bounds 2 0 , 0 2", "deal deal put show", "book tell deal")
        self.assertEqual("1", desk("tell tell do 0"))
        self.assertEqual(("ok", "ok"), desk.told("drop show", "left drop tell"))
        self.assertEqual(["deal", "drop", "put", "tell"], list(desk))
        self.assertEqual(SWAP, desk("show put"))


class AskLinesTest(Case):
    def test_answers(self):
        desk = told_desk()
        told = [
            ("show cup", SWAP), ("show low", "2 0 , 0 2"), ("show d", SWAP + " ; 2 0 , 0 2"), ("show b", "do 0"), ("walk d 0 1", "good"),
            ("walk d 1 0", "1"), ("play d 0 1", "whole"), ("row d", "0 1"), ("plan b", "1"), ("count d", "1"), ("need b", "0 0 , 3 2"),
            ("fine d", "no"), ("classes d", "0 , 1"), ("group d", "1"), ("most d", "0 1"), ("sums b", "-2 3"), ("hopes b", "1 1"),
            ("objecting b", "-"), ("pieces d 1", "1"),
        ]
        for text, answer in told:
            if text not in ("need b", "fine d"):
                self.assertEqual(answer, desk(text), text)
        desk.told("put t dial trust ann 1 bob 1 | pledge", "put p dial trust | pledge ann 1 bob 1", "put zero bounds 0 0 , 0 0", "deal z cup zero")
        self.assertEqual(("2", "never", "2/3", "never"), desk.told("put x bounds 0 2 , 0 2", "deal x cup x", "least x t", "least z t")[2:] + desk.told(
            "put y bounds 2 0 , 2 0", "deal y cup y", "patience y", "patience z")[2:])
        self.assertEqual("2 2", desk("front z t p"))
        self.assertEqual("none", desk("pieces z 3"))
        self.assertEqual("0 1", desk("classes z"))
        self.assertEqual(("0", "0"), desk.told("play z 0 1", "count z"))

    def test_nothing_to_tell(self):
        desk = told_desk("put s swap ann bob", "put b bounds 0 0 , 0 0", "deal d s b", "book k d", "put l dial trust | pledge")
        told = [
            ("walk d", "good"), ("play d", "whole"), ("row d", "-"), ("plan k", "-"), ("count d", "1"), ("need k", "0 0 , 0 0"), ("least d l", "0"),
            ("patience d", "0"), ("front d l l", "0 0"), ("pieces d 1", "1"), ("fine d", "yes"), ("classes d", "-"), ("group d", "0"), ("most d", "-"),
            ("sums k", "0 0"), ("hopes k", "0 0"), ("objecting k", "-"), ("show k", "-"), ("show l", "trust | pledge"), ("undo k", None),
        ]
        for text, answer in told:
            if answer is None:
                self.check_raises(NoDeed(), desk, text)
            else:
                self.assertEqual(answer, desk(text), text)
        self.assertEqual("-", desk("book x d"))

    def test_errors_of_the_functions(self):
        desk = told_desk(*LINES, "put l dial trust zed 1 | pledge", "put t dial trust ann 1 | pledge", "put e deal " + SWAP + " ; 0 0 , 0 0 ; 0 1",
                         "put n deal ann bob | ann bob 2 3 ; 0 0 , 0 0", "put big deal ann bob" + " | ann bob 1 1 | bob ann 1 1" * 7 + " ; 9 9 , 9 9",
                         "book bb big")
        for text, error in [
            ("walk d 0", BadRow("row")), ("walk d", BadRow("row")), ("play d 0 0", BadRow("row")), ("play d 0 1 2", BadRow("row")),
            ("pieces d 0", BadNumber("most")), ("pieces e 0", BadNumber("most")), ("pieces e 1", Leans(0, 1)), ("fine e", Leans(0, 1)),
            ("least d l", NoStranger("zed")), ("front d t l", NoStranger("zed")), ("patience n", Loser("ann")), ("classes n", NoWay((), "ann")),
            ("group n", NoWay((), "ann")), ("fine n", NoWay((), "ann")), ("row big", TooMany("hands", 12)), ("count big", TooMany("hands", 12)),
            ("classes big", TooMany("hands", 8)), ("group big", TooMany("hands", 8)), ("most big", TooMany("hands", 6)), ("plan bb", TooMany("hands", 12)),
            ("least big t", TooMany("hands", 12)), ("front big t l", NoStranger("zed")), ("pieces big 1", TooMany("tallies", 4096)),
        ]:
            before = whole_state(desk)
            self.check_raises(error, desk, text)
            self.assertEqual(before, whole_state(desk))
        desk("tell bb leave ann")
        self.check_raises(Alone(), desk, "plan bb")
        self.check_raises(Alone(), desk, "need bb")

    def test_beside_the_functions(self):
        rnd = random.Random(1061)
        wrong = 0
        for deal in random_deals(1062, 60, 4):
            names = deal.swap.strangers
            one, other = Dial({name: rnd.choice([1, 2]) for name in names}, {}), Dial({}, {name: 1 for name in names if rnd.random() < 0.8})
            book = Book(deal)
            for _ in range(rnd.randrange(5)):
                told_by(book, random_deed(rnd, deal))
            desk = told_desk(f"put d deal {deal}", f"put l dial {one}", f"put o dial {other}", "book k d", *[f"tell k {deed}" for deed in book])
            row = rnd.sample(range(len(deal)), len(deal))
            most = rnd.randrange(3)
            words = " ".join(["", *map(str, row)])
            told = {
                "show d": lambda: str(deal), "show k": lambda: apart(book.story), f"walk d{words}": lambda: self.walked(deal, row),
                f"play d{words}": lambda: "whole" if played(deal, row).is_whole else str(played(deal, row).moment),
                "row d": lambda: in_turn(find_row(deal).row) if find_row(deal) else "stuck",
                "plan k": lambda: in_turn(plan(book).row) if plan(book) else "stuck", "count d": lambda: str(Rows(deal).count),
                "need k": lambda: str(enough_here(book)), "least d l": lambda: self.number(least(deal, one)), "least d o": lambda: self.number(least(deal, other)),
                "patience d": lambda: self.number(patience(deal)), "front d l o": lambda: self.points(front(deal, one, other)),
                f"pieces d {most}": lambda: self.pieces(least_pieces(deal, most)), "fine d": lambda: "yes" if fine(deal) else "no",
                "classes d": lambda: apart([in_turn(numbers) for numbers in classes(deal)]), "group d": lambda: str(least_group(deal).number),
                "most d": lambda: in_turn(most_chosen(deal).numbers), "sums k": lambda: in_turn(book.sums_now), "hopes k": lambda: in_turn(book.hopes),
                "objecting k": lambda: apart(book.objecting),
            }
            for text, work in told.items():
                expected, found = answer_or_error(work), answer_or_error(lambda: desk(text))
                wrong += not isinstance(expected, str)
                self.check_same(expected, found)
                self.assertEqual(found, answer_or_error(lambda: desk(text)))
            self.assertEqual(book, desk.value_of("k"))
        self.assertGreater(wrong, 30)

    def walked(self, deal, row):
        walk = RowWalk(deal, row)
        return "good" if walk.is_good else str(walk.first_bad.number)

    def number(self, found):
        return str(found.number) if found else "never"

    def points(self, found):
        return apart([in_turn(point) for point in found.points]) if found else "never"

    def pieces(self, found):
        return str(found.pieces) if found else "none"

    def test_deed_lines_beside_the_functions(self):
        rnd = random.Random(1063)
        for deal in random_deals(1064, 40, 4):
            begun = Book(deal)
            books = []
            for _ in range(2):
                book = begun.twin()
                for _ in range(5):
                    told_by(book, random_deed(rnd, deal))
                books.append(book)
            desk = told_desk(f"put d deal {deal}", "book x d", "book y d")
            for name, book in zip("xy", books):
                twin = Book(deal)
                for deed in book:
                    twin.tell(deed)
                    self.assertEqual(in_turn(twin.waiting), desk(f"tell {name} {deed}"))
                    self.assertEqual(twin, desk.value_of(name))
            found, refused = merged(*books)
            self.assertEqual(in_turn(refused), desk("merge m x y"))
            self.assertEqual(found, desk.value_of("m"))
            for name, work in (("exchange", exchanged), ("return", handed_back_deal)):
                expected = answer_or_error(lambda: work(deal))
                answer = answer_or_error(lambda: desk(f"{name} new d"))
                if isinstance(expected, Deal):
                    self.assertEqual(("ok", expected), (answer, desk.value_of("new")))
                else:
                    self.check_same(expected, answer)
            expected = answer_or_error(books[0].left)
            answer = answer_or_error(lambda: desk("left new x"))
            self.assertEqual(expected if isinstance(answer, tuple) else desk.value_of("new"), expected)


class DeskTest(Case):
    def test_a_new_desk(self):
        desk = Desk()
        self.check_same((0, [], (), ()), (len(desk), list(desk), desk.deed_lines(), desk.told()))
        self.check_raises(NoDeed(), desk.undo)

    def test_wrong_lines(self):
        desk = told_desk()
        before = whole_state(desk)
        self.check_each_raises(BadText(0, 0), [*ODD, 3, ["drop cup"], ("drop", "cup"), "zed", " "], desk)
        for text, word in [("least d cup", 2), ("drop zed", 1), ("tell b", 2), ("count d d", 2), ("put cup swap ann", 4)]:
            self.check_raises(BadText(0, word), desk, text)
        self.assertEqual(before, whole_state(desk))

    def test_told_calls_that_fail(self):
        for lines, place, error in [
            (("drop zed", "drop low"), 0, BadText(0, 1)), (("drop low", "tell b do 7"), 1, NoHand(7)), ((None, "drop low"), 0, BadText(0, 0)),
            (("drop low", "tell b trust bob 9", "put cup bounds 1 1 , 1 1", "undo b", "undo b", "undo b"), 5, NoDeed()),
            (("tell b do 1", "drop b", "drop d", "drop cup", "drop low", "show low"), 5, BadText(0, 1)),
            (("tell b pledge bob 1", "tell b do 1", "drop b"), 1, Objected("bob", Ratio(1))),
        ]:
            desk = told_desk()
            before = whole_state(desk)
            with self.assertRaises(BadLine) as caught:
                desk.told(*lines)
            self.assertEqual(place, caught.exception.line)
            self.assertIs(type(error), type(caught.exception.error))
            self.check_same(vars(error), vars(caught.exception.error))
            self.assertEqual(before, whole_state(desk))
            self.assertEqual(LINES, desk.deed_lines())

    def test_answers_in_turn(self):
        self.check_same(("ok", "ok", "ok", "0 1", "1", "-2 3"), Desk().told(*LINES, "sums b"))

    def test_undo_of_each_deed_line(self):
        lines = (
            *LINES, "put l dial trust ann 1 | pledge", "exchange x d", "return x x", "tell b trust ann 3", "undo b", "redo b", "left y b",
            "book d d", "merge d d b", "drop low", "put low swap a b", "drop x",
        )
        desk, states = Desk(), []
        for text in lines:
            states.append(whole_state(desk))
            try:
                desk(text)
            except LastError:
                states.pop()
        done = desk.deed_lines()
        self.assertEqual(len(states), len(done))
        for text, state in zip(done[::-1], states[::-1]):
            self.assertEqual(text, desk.undo())
            self.assertEqual(state, whole_state(desk))
        self.check_raises(NoDeed(), desk.undo)

    def test_undo_gives_back_what_a_book_can_do_anew(self):
        desk = told_desk(*LINES, "undo b")
        desk("tell b trust ann 5")
        self.check_raises(NoDeed(), desk, "redo b")
        self.assertEqual("tell b trust ann 5", desk.undo())
        self.assertEqual("1", desk("redo b"))
        self.assertEqual(("redo b", "undo b", LINES[-1]), (desk.undo(), desk.undo(), desk.undo()))

    def test_ask_lines_are_not_taken_back(self):
        desk = told_desk(*LINES, "show b", "sums b", "row d")
        self.assertEqual(LINES, desk.deed_lines())
        self.assertEqual("tell b do 0", desk.undo())
        self.assertEqual(LINES[:-1], desk.deed_lines())

    def test_values(self):
        desk = told_desk()
        for value in [*NO_NAMES, "zed", CUP]:
            self.assertIsNone(desk.value_of(value))
            self.assertIs(False, value in desk)
        for name in ("b", "cup", "d", "low"):
            self.assertIs(True, name in desk)
        self.assertEqual(CUP, desk.value_of(name="cup"))
        self.check_same((4, ["b", "cup", "d", "low"]), (len(desk), list(desk)))

    def test_books_are_told_as_twins(self):
        desk = told_desk(*LINES, "tell b trust bob 4", "undo b")
        book = desk.value_of("b")
        book.redo()
        book.leave("ann")
        self.assertEqual("do 0", desk("show b"))
        self.assertEqual("1", desk("redo b"))
        self.check_same(2, len(desk.value_of("b")))
        other = desk.value_of("b")
        desk("tell b leave bob")
        self.check_same(2, len(other))
        self.assertEqual((Do([0]), Leave("ann")), (book.story[0], book.story[-1]))

    def test_books_do_not_change_one_another(self):
        desk = told_desk(*LINES, "merge c b b", "tell c pledge bob 9")
        self.assertEqual(("do 0", "do 0 , pledge bob 9"), desk.told("show b", "show c"))
        self.assertEqual(SetPledge("bob", 9), desk.value_of("c").story[1])

    def test_equality(self):
        self.check_equality(told_desk, [
            Desk(), told_desk(*LINES[:-1]), told_desk(*LINES, "drop low"), told_desk(*LINES, "put low bounds 2 0 , 0 3"), told_desk(*LINES, "tell b do 1"),
            told_desk(*LINES, "put low swap a b"), CUP,
        ])
        self.assertTrue(told_desk(*LINES, "put x swap a b", "drop x") == told_desk())
        self.assertTrue(told_desk() == told_desk(*LINES[:3], "book b d", "tell b trust ann 3", "undo b", "tell b do 0"))

    def test_names_ascend(self):
        desk = told_desk("put c swap a b", "put a swap a b", "put b1 swap a b", "put b swap a b", "drop c")
        self.assertEqual(["a", "b", "b1"], list(desk))
        self.assertEqual("a-b-b1", "-".join(desk))


if __name__ == "__main__":
    unittest.main()
