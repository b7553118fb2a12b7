"""What the lines of a desk may be: each line with each of its words wrong, missing, and too many."""

import unittest

from lastgiver.books import Book
from lastgiver.bounds import Bounds
from lastgiver.choices import Choice
from lastgiver.deals import Deal
from lastgiver.deeds import Do
from lastgiver.dials import Dial
from lastgiver.errors import BadText
from lastgiver.reader import FORMS, form_of, read_line

from support import CUP, NO_NAMES, ODD, Case

KEPT = {"s": "swap", "b": "bounds", "d": "deal", "l": "dial", "k": "book", "put": "swap", "ok": "book"}
SWAP = "ann bob | ann bob 2 3 | bob ann 2 3"
# Each line, and for its words behind the first what may stand there.
LINES = {
    "put new swap": "name form", "drop s": "held", "deal new s b": "name swap bounds", "exchange new d": "name deal", "return new d": "name deal",
    "book new d": "name deal", "undo k": "book", "redo k": "book", "left new k": "name book", "merge new k ok": "name book book",
    "show l": "held", "walk d": "deal ..", "play d": "deal ..", "row d": "deal", "plan k": "book", "count d": "deal", "need k": "book",
    "least d l": "deal dial", "patience d": "deal", "front d l l": "deal dial dial", "pieces d 0": "deal number", "fine d": "deal",
    "classes d": "deal", "group d": "deal", "most d": "deal", "sums k": "book", "hopes k": "book", "objecting k": "book", "tell k": "book",
}
ENDS = {"put": SWAP, "tell": "do 0"}
NO_NUMBERS_TOLD = ["", "-1", "x", "1/2", "01", "+1", "s", "9" * 61, "\u0661"]


def right_words(kind):
    """Words that may stand for a kind."""
    if kind == "name":
        return ["new", "s", "put", "swap", "a1", "abcdefghijkl"]
    if kind == "form":
        return ["swap"]
    if kind in ("number", ".."):
        return ["0", "7", "9" * 60]
    return list(KEPT) if kind == "held" else [name for name in KEPT if KEPT[name] == kind]


def wrong_words(kind):
    """Words that may not."""
    if kind == "name":
        return ["", "New", "1a", "a-b", "abcdefghijklm", "|"]
    if kind == "form":
        return ["", "book", "Swap", "s", "deals"]
    if kind in ("number", ".."):
        return NO_NUMBERS_TOLD
    others = [] if kind == "held" else [name for name in KEPT if KEPT[name] != kind]
    return ["", "zed", "new", "swap", *others]


class FormsTest(Case):
    def test_forms(self):
        self.check_same(("swap", "bounds", "deal", "dial"), FORMS)
        deal = Deal(CUP, Bounds.zero(2))
        told = [(CUP, "swap"), (Bounds.zero(2), "bounds"), (deal, "deal"), (Dial({}, {}), "dial"), (Book(deal), "book")]
        for value, form in told:
            self.check_same(form, form_of(value=value))
        for value in [*ODD, 3, "swap", Swapless(), Do([0]), Choice.none(deal), [CUP], Deal, CUP.hands[0]]:
            self.assertIsNone(form_of(value))


class Swapless:
    """A value of no form."""


class LinesTest(Case):
    def lines(self):
        """The words of each line, and the kinds of those behind the first."""
        for text, kinds in LINES.items():
            yield text.split(" "), [kind for kind in kinds.split(" ") if kind != ".."], ".." in kinds

    def test_no_string_and_no_line(self):
        self.check_each_raises(BadText(0, 0), [value for value in ODD if value != ""], lambda value: read_line(value, {}))
        for text in ("", " ", "PUT a swap a b", "puts", "zed", "ann", " drop s", "told", "choices d", "-"):
            self.check_raises(BadText(0, 0), read_line, text, KEPT)
        self.check_raises(BadText(0, 0), read_line, line=["drop", "s"], forms=KEPT)

    def test_each_line(self):
        for words, kinds, numbers in self.lines():
            end = [ENDS[words[0]]] if words[0] in ENDS else []
            text = " ".join([*words, *end])
            self.check_same((*words, *end), read_line(text, KEPT))
            self.check_same((*words, *end), read_line(line=text, forms=dict(KEPT)))
            for place, kind in enumerate(kinds):
                for word in right_words(kind):
                    told = [*words[:place + 1], word, *words[place + 2:], *end]
                    self.check_same(tuple(told), read_line(" ".join(told), KEPT))
                for word in wrong_words(kind):
                    told = " ".join([*words[:place + 1], word, *words[place + 2:], *end])
                    self.check_raises(BadText(0, place + 1), read_line, told, KEPT)

    def test_words_that_are_missing(self):
        for words, _, _ in self.lines():
            for many in range(1, len(words) + (words[0] in ENDS)):
                self.check_raises(BadText(0, many), read_line, " ".join(words[:many]), KEPT)

    def test_words_too_many(self):
        for words, _, numbers in self.lines():
            if words[0] not in ENDS and not numbers:
                for more in ("0", "", "s", "| a", "ok ok"):
                    self.check_raises(BadText(0, len(words)), read_line, " ".join([*words, more]), KEPT)

    def test_the_first_word_that_cannot_stand(self):
        for text, word in [
            ("deal New zed zed", 1), ("deal new zed zed", 2), ("deal new s zed", 3), ("merge new k zed", 3), ("front d zed zed", 2),
            ("pieces zed x", 1), ("put 1 zed", 1), ("put new zed a", 2), ("put new swap", 3), ("tell zed zed", 1), ("least d d", 2), ("drop s s", 2),
            ("exchange new", 2), ("front d l", 3), ("merge", 1), ("deal new b s", 2), ("left new d", 2), ("walk k 0", 1),
        ]:
            self.check_raises(BadText(0, word), read_line, text, KEPT)

    def test_numbers(self):
        for word in ("walk", "play"):
            self.check_same((word, "d"), read_line(f"{word} d", KEPT))
            self.check_same((word, "d", "3", "0", "3", "9" * 60), read_line(f"{word} d 3 0 3 " + "9" * 60, KEPT))
            for wrong in NO_NUMBERS_TOLD:
                self.check_raises(BadText(0, 4), read_line, f"{word} d 0 1 {wrong} x", KEPT)
                self.check_raises(BadText(0, 2), read_line, f"{word} d {wrong}", KEPT)

    def test_texts(self):
        told = [
            ("swap", SWAP), ("swap", "a b"), ("bounds", "2 0 , wide 1/2"), ("deal", "a b | a b 1 1 ; 0 0 , wide 0"), ("dial", "trust a 1 | pledge"),
            ("deal", "a b | a b 1 1 | b a 1 1 ; 0 0 , 1 1 ; 1 0"),
        ]
        for form, text in told:
            self.check_same(("put", "new", form, text), read_line(f"put new {form} {text}", {}))
        for text, word in [
            ("swap", 3), ("swap ", 3), ("swap ann", 4), ("swap ann ann", 4), ("swap ann bob | ann ann 2 3", 7), ("swap ann bob |", 6),
            ("swap ann bob X", 5), ("swap ann bob ", 5), ("swap ann bob | ann bob 2 " + "9" * 61, 9), ("bounds 1 2", 5), ("bounds 1 2 , 1", 7),
            ("bounds 2 0 , -1 0", 6), ("deal a b | a b 1 1", 10), ("deal a b ; 1 1", 8), ("deal a b ; 1 1 , 1 1 ; 0 1", 12), ("dial trust", 4),
            ("dial trust a 1 | pledge a", 9), ("dial pledge", 3), ("dial trust a 1 a 2 | pledge", 6), ("book d", 2),
        ]:
            self.check_raises(BadText(0, word), read_line, f"put new {text}", KEPT)

    def test_deeds(self):
        for text in ("do 0 2", "leave ann", "break 3", "trust ann wide", "pledge bob 1/2"):
            self.check_same(("tell", "k", text), read_line(f"tell k {text}", KEPT))
        for text, word in [
            ("", 2), ("x", 2), ("do", 3), ("do 1 0", 4), ("do 0 ", 4), ("leave", 3), ("leave ann bob", 4), ("trust ann", 4), ("trust ann -1", 4),
            ("pledge ann 0 0", 5), ("break 1 ", 4), ("swap a b", 2), ("bounds 0 0 , 0 0", 2), ("dial trust | pledge", 2),
        ]:
            self.check_raises(BadText(0, word), read_line, f"tell k {text}", KEPT)

    def test_names_that_are_words_of_lines(self):
        forms = {"drop": "deal", "show": "book", "swap": "swap", "tell": "book", "do": "book"}
        for text in ("drop drop", "show show", "deal deal swap swap", "count drop", "undo tell", "plan do", "put put swap a b"):
            if text == "deal deal swap swap":
                self.check_raises(BadText(0, 3), read_line, text, forms)
            else:
                self.check_same(tuple(text.split(" ", 3)), read_line(text, forms))
        self.check_same(("tell", "do", "do 0"), read_line("tell do do 0", forms))

    def test_names_of_no_name(self):
        for value in [one for one in NO_NAMES if isinstance(one, str) and " " not in one]:
            self.check_raises(BadText(0, 1), read_line, f"book {value} d", KEPT)


if __name__ == "__main__":
    unittest.main()
