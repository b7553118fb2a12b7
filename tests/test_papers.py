"""Papers: how they keep what they are told, and when they are equal."""

import unittest

from lastgiver.chains import Chain
from lastgiver.doable import Best, ChoiceFront, Ended, NoChoice, StuckChoice
from lastgiver.even import Filled, Halted, Outside
from lastgiver.fine import Fine, Unclosed, Unopened
from lastgiver.fitting import EnoughPieces, FewestPieces, LeastPieces, NoFewest, NoPieces, Tight
from lastgiver.fronts import Front
from lastgiver.group_plays import PlayedGroups
from lastgiver.groups import Few, Most, Narrow
from lastgiver.held_ways import Held, NotHeld
from lastgiver.kind_rows import StuckKinds
from lastgiver.laid import LeastLaid, NeverLaid
from lastgiver.least import Least, Never
from lastgiver.papers import Denial, Paper, fixed
from lastgiver.patience import Patience
from lastgiver.pieces import Pieced, Unpieced
from lastgiver.plays import Played
from lastgiver.purses import LeastPurse, NoPurse, Reliers
from lastgiver.ratios import Ratio
from lastgiver.roads import Rank
from lastgiver.rows import Good, Stuck
from lastgiver.seasons import Season
from lastgiver.together import Parted, Together
from lastgiver.two_sides import Gap, Sides

from support import Case

# Each class of papers of several parts, with their names.
SEVERAL = [
    (Played, "row leaves outcomes", True), (PlayedGroups, "groups leavers outcomes", True), (Season, "row leaves outcomes", True),
    (Rank, "number kept pulls", True), (Chain, "rank row weights", True), (Filled, "row", True), (Outside, "moment", False),
    (Halted, "row", False), (Least, "number row pinch fence", True), (Never, "sets", False), (Front, "points rows fences", True),
    (Patience, "number factor", True), (Pieced, "counts order", True), (Unpieced, "counts reached", False),
    (LeastPieces, "pieces order denials", True), (FewestPieces, "counts order denials", True), (EnoughPieces, "pieces", True),
    (NoPieces, "most denials", False), (NoFewest, "extra denials", False), (Tight, "name side", False),
    (Fine, "opening closing pieces", True), (Unopened, "opened against", False), (Unclosed, "closed against", False),
    (Parted, "done", True), (Together, "lines", False), (Most, "number groups ranks", True), (Narrow, "number groups fence", True),
    (Few, "number groups ranks", True), (Held, "strokes", True), (NotHeld, "sets", False), (LeastPurse, "number strokes fence", True),
    (NoPurse, "sets", False), (Reliers, "least barred", True), (LeastLaid, "number row closed", True), (NeverLaid, "closed", False),
    (Ended, "numbers done row", True), (StuckChoice, "numbers done sets", False), (Best, "numbers row others", True),
    (ChoiceFront, "points others", True), (NoChoice, "done name amount", False),
]
KINDS = [(Good, "good", "row", True), (Stuck, "stuck", "sets", False), (StuckKinds, "stuckkinds", "counts", False),
         (Sides, "sides", "row", True), (Gap, "gap", "place", False)]


class PapersTest(Case):
    def test_fixed(self):
        self.check_same((1, (2, (3, ())), None), fixed([1, [2, (3, [])], None]))
        self.check_same((("a", (1,)), ("b", (("c", 2),))), fixed({"b": {"c": 2}, "a": [1]}))
        self.check_same(((-1, "x"), (2, (3,)), (10, ())), fixed({10: {}, 2: [3], -1: "x"}))
        for value in ["ab", 1, True, None, Ratio(1, 2), 1.5]:
            self.assertIs(value, fixed(value=value))

    def test_fixed_deep_within(self):
        value, wanted = 7, 7
        for _ in range(60):
            value, wanted = [value], (wanted,)
        self.check_same(wanted, fixed(value))

    def test_paper_and_denial(self):
        for kind, truth in ((Paper, True), (Denial, False)):
            paper = kind("note", [1, [2]], {"a": [3]})
            self.assertEqual("note", paper.word)
            self.check_same(((1, (2,)), (("a", (3,)),)), paper.parts)
            self.assertIs(truth, bool(paper))
            self.check_same((), kind(word="note").parts)
        self.assertTrue(issubclass(Denial, Paper))

    def test_equality(self):
        self.check_equality(lambda: Paper("note", [1], 2), [
            Paper("note", [1]), Paper("notes", [1], 2), Paper("note", [1], 3), Paper("note", 2, [1]),
            Denial("note", [1], 2), Good([1]),
        ])
        self.assertTrue(Paper("note", [1]) == Paper("note", (Ratio(1),)))
        self.assertTrue(Denial("note", {"a": 1}) == Denial("note", [["a", 1]]))
        self.assertFalse(Denial("note") == Paper("note"))
        self.assertFalse(Good([0]) == Paper("good", [0]) or Paper("good", [0]) == Good([0]))
        self.assertFalse(Sides([0]) == Good([0]) or Stuck([]) == StuckKinds([]))

    def test_a_paper_keeps_its_parts_whatever_happens_to_what_was_passed(self):
        row, inner = [1, 0], {"a": [1]}
        paper, good = Paper("note", row, inner), Good(row)
        row.append(2)
        inner["a"].append(2)
        inner["b"] = 3
        self.check_same(((1, 0), (("a", (1,)),)), paper.parts)
        self.check_same((1, 0), good.row)

    def test_classes_of_papers(self):
        for kind, word, part, truth in KINDS:
            for value in [None, 3, "x", (), ((1,), 2)]:
                for paper in (kind(value), kind(**{part: value})):
                    self.assertEqual(word, paper.word)
                    self.check_same((value,), paper.parts)
                    self.check_same(value, getattr(paper, part))
                    self.assertIs(truth, bool(paper))
                    self.assertIs(not truth, isinstance(paper, Denial))
                    self.assertIsInstance(paper, Paper)
            self.check_same((1, (2, (("a", ()),))), getattr(kind([1, [2, {"a": []}]]), part))
            self.check_equality(lambda: kind([1]), [kind([2]), kind(1), Paper(word, [1]), Denial(word, [1])])

    def test_classes_of_papers_of_several_parts(self):
        for kind, told, truth in SEVERAL:
            names = told.split()
            for values in ([None] * 4, [3, True, "x", ()], [[1, [2]], {"a": []}, Ratio(1, 2), 5]):
                values = values[:len(names)]
                for paper in (kind(*values), kind(**dict(zip(names[::-1], values[::-1])))):
                    self.assertEqual(kind.__name__.lower(), paper.word)
                    self.check_same(fixed(values), paper.parts)
                    for name, value in zip(names, values):
                        self.check_same(fixed(value), getattr(paper, name))
                    self.assertIs(truth, bool(paper))
                    self.assertIs(not truth, isinstance(paper, Denial))
                    self.assertIsInstance(paper, Paper)
            one = [[1]] * len(names)
            others = [kind(*one[:place], 2, *one[place + 1:]) for place in range(len(names))]
            self.check_equality(lambda: kind(*one), [*others, Paper(kind.__name__.lower(), *one), Denial(kind.__name__.lower(), *one)])


if __name__ == "__main__":
    unittest.main()
