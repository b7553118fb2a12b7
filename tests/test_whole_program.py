"""One deal told by all parts of the program: they agree where the document says so. What is passed stays as it was."""

import itertools
import random
import unittest

from lastgiver.books import Book
from lastgiver.bounds import Bounds
from lastgiver.chains import enough
from lastgiver.changed import capping, idling
from lastgiver.choices import Choice, choices
from lastgiver.deals import Deal, allowed_sets
from lastgiver.desk import Desk
from lastgiver.dials import Dial
from lastgiver.doable import choice_front, doable, ended, most_chosen
from lastgiver.errors import LastError, TooNarrow
from lastgiver.fine import fine
from lastgiver.fitting import least_pieces
from lastgiver.fronts import front
from lastgiver.groups import fewest_groups, least_group, most_groups
from lastgiver.held_ways import count_held, held_way
from lastgiver.keepers import Keeper, Keepers
from lastgiver.kind_rows import count_by_kinds, find_by_kinds
from lastgiver.laid import laid, least_laid, shifted
from lastgiver.least import least
from lastgiver.numbered import Rows
from lastgiver.papers import Denial, Paper
from lastgiver.pieces import pieced
from lastgiver.plans import can_end, enough_here, plan
from lastgiver.plays import leaver, played
from lastgiver.purses import least_purse, reliers
from lastgiver.ratios import Ratio
from lastgiver.reached import firsts, live, reached
from lastgiver.roads import enough_bounds
from lastgiver.rows import find_row, forced
from lastgiver.stories import merged, replay
from lastgiver.sums import sums
from lastgiver.swaps import Swap
from lastgiver.together import behind, classes, never_behind, parting
from lastgiver.turned_deals import exchanged, rest_deal
from lastgiver.walked import RowWalk
from lastgiver.ways import Way, count_ways

from support import CUP, Case, plain_good_rows, random_deals
from support_ways import has_way, way_deals


class OneDealTest(Case):
    def test_whether_there_is_a_good_row(self):
        kinds = set()
        for deal in [*random_deals(1071, 80, 4), *way_deals(1072, 60, 4)]:
            good = bool(plain_good_rows(deal))
            kinds.add(good)
            full = tuple(range(len(deal)))
            desk = Desk()
            desk.told(f"put d deal {deal}", "book k d")
            told = {
                "find_row": bool(find_row(deal)), "Rows": bool(Rows(deal)), "live": full in live(deal), "reached": full in reached(deal),
                "least": bool(least(deal, Dial({}, {}))), "front": bool(front(deal, Dial({}, {}), Dial({}, {}))),
                "ended": bool(ended(Choice.whole(deal))), "most": len(most_chosen(deal).numbers) == len(deal), "plan": can_end(Book(deal)),
                "held": bool(held_way(deal, Keepers(deal.swap, [1] * len(deal), Keeper("kin", 0, *deal.swap.strangers)))),
                "desk": desk("row d") != "stuck", "asked": desk("plan k") != "stuck", "counted": desk("count d") != "0",
                "laid": bool(find_row(laid(deal, "kin", {}))), "idle": bool(find_row(idling(deal, *deal.swap.strangers[:2]).deal)),
                "capped": bool(find_row(capping(deal).deal)), "exchanged": bool(find_row(exchanged(deal))),
            }
            if len(deal.leanings) == 0:
                told["kinds"] = bool(find_by_kinds(deal))
                told["pieces"] = bool(pieced(deal, 1))
                told["whole pieces"] = bool(least_pieces(deal, 1))
            if has_way(deal):
                told["least group"] = least_group(deal).number <= 1
                told["most groups"] = most_groups(deal).number == len(deal)
                told["single ways"] = count_ways(deal, 1) > 0
            self.assertEqual(dict.fromkeys(told, good), told)
        self.assertEqual({True, False}, kinds)

    def test_the_first_good_row(self):
        for deal in random_deals(1073, 100, 4):
            rows = plain_good_rows(deal)
            if not rows:
                continue
            row, book = rows[0], Book(deal)
            told = [
                find_row(deal).row, Rows(deal).at(0), least(deal, Dial({}, {})).row, ended(Choice.whole(deal)).row, plan(book).row,
                laid_row(deal), front(deal, Dial({}, {}), Dial({}, {})).rows[0],
            ]
            self.assertEqual([row] * len(told), told)
            for number in row:
                book.do(number)
            self.assertEqual((), book.waiting)
            self.assertEqual(deal.swap.nets, book.sums_now)
            self.assertTrue(RowWalk(deal, row).is_good)
            self.assertTrue(played(deal, row, careful=True).is_whole)
            self.assertIsNone(leaver(deal, row))
            self.assertEqual(row, Way(deal, [[number] for number in row]).as_row())

    def test_numbers_of_rows_and_ways(self):
        for deal in random_deals(1074, 80, 4):
            many = len(plain_good_rows(deal))
            keepers = Keepers(deal.swap, [1] * len(deal))
            self.assertEqual((many, many), (Rows(deal).count, count_held(deal, keepers)))
            if len(deal.leanings) == 0:
                self.assertEqual(many, count_by_kinds(deal))
            if has_way(deal):
                self.assertEqual(many, count_ways(deal, 1))
                every = Keepers(deal.swap, [1] * len(deal), Keeper("kin", 99, *deal.swap.strangers))
                self.assertEqual(count_ways(deal), count_held(deal, every))

    def test_what_is_done_next(self):
        for deal in random_deals(1075, 60, 4):
            book = Book(deal)
            self.assertEqual(firsts(deal), tuple(sorted({row[0] for row in plain_good_rows(deal) if row})))
            for number in range(len(deal)):
                twin = book.twin()
                try:
                    twin.do(number)
                except LastError:
                    self.assertFalse(deal.is_allowed(()) and number in deal.moves(()))
                    continue
                self.assertIn(number, deal.moves(()))
                self.assertEqual(rest_deal(deal, [number]), twin.left())
                self.assertEqual(sums(deal.swap, [number]), twin.sums_now)
                self.assertIs(bool(find_row(twin.left())), bool(ended(Choice.whole(deal), [number])))

    def test_pairs_of_hand_overs(self):
        for deal in way_deals(1076, 60, 4):
            told = never_behind(deal)
            for e, f in itertools.permutations(range(len(deal)), 2):
                self.assertIs((e, f) in told, not behind(deal, e, f))
                self.assertIs(any(e in one and f in one for one in classes(deal)), not parting(deal, e, f))
                if find_row(deal) and (e, f) in told:
                    self.assertIn((e, f), forced(deal))

    def test_bounds_that_are_enough(self):
        for deal in random_deals(1077, 60, 5, leanings=False):
            wide = deal.with_bounds(enough_bounds(deal.swap))
            row = enough(deal.swap).row
            self.assertTrue(RowWalk(wide, row).is_good)
            self.assertEqual(enough_bounds(deal.swap), enough_here(Book(deal)))
            self.assertEqual(Choice.whole(wide).numbers, most_chosen(wide).numbers)
            self.assertLessEqual(least_group(wide).number, 1)
            self.assertTrue(fine(wide))
            self.assertEqual(1, least_pieces(wide, 1).pieces)

    def test_choices_are_deals_of_their_own(self):
        for deal in random_deals(1078, 30, 4):
            front_now = choice_front(deal)
            ending = {one.numbers for one in doable(deal)}
            for choice in choices(deal):
                self.assertIs(choice.numbers in ending, bool(find_row(choice.inner)))
                self.assertIs(choice.numbers in ending, can_end(Book(choice.inner)))
            self.assertTrue({numbers for numbers, _ in front_now.points} <= ending)

    def test_numbers_told_by_several_parts(self):
        for deal in way_deals(1079, 60, 4):
            keepers = Keepers(deal.swap, [1] * len(deal), Keeper("kin", 0, *deal.swap.strangers))
            number = least_group(deal).number
            self.assertEqual(0 if number == 1 else number, least_purse(deal, keepers, "kin").number)
            self.assertLessEqual(fewest_groups(deal, max(1, number)).number, len(deal))
            if number > 1:
                self.check_raises(TooNarrow(number), fewest_groups, deal, number - 1)
            wide = keepers.placed(Keeper("kin", 99))
            for names, strokes in reliers(deal, wide, "kin").least:
                self.assertEqual(strokes, held_way(deal, wide.placed(Keeper("kin", 99, *names))).strokes)

    def test_a_book_and_its_story(self):
        for deal in random_deals(1080, 40, 4):
            book = Book(deal)
            for row in plain_good_rows(deal)[:2]:
                twin = book.twin()
                for number in row:
                    twin.do(number)
                self.assertEqual(twin, replay(deal, twin.story))
                self.assertEqual((twin, ()), merged(book, twin))


def laid_row(deal):
    """The row of the least amount of the first stranger, if it is 0."""
    found = least_laid(deal, deal.swap.strangers[0])
    return find_row(shifted(deal, {deal.swap.strangers[0]: found.number})).row if found.number == 0 else None


class PassedTest(Case):
    def test_what_is_passed_stays_and_lists_may_be_changed(self):
        deal = Deal(CUP, Bounds.alike(2, 2, 2), [(0, 1)])
        before = str(deal)
        found = allowed_sets(deal)
        found.append(None)
        found[0] = None
        self.assertEqual([(), (0,), (0, 1)], allowed_sets(deal))
        groups, done, row = [[1, 0]], [1, 0], [0, 1]
        Way(deal, groups)
        Choice(deal, done)
        played(deal, row)
        ended(Choice.whole(deal), done)
        Keepers(CUP, [1, 1], Keeper("kin", 2, "bob", "ann")).reasons("kin", done)
        self.assertEqual(([[1, 0]], [1, 0], [0, 1], before), (groups, done, row, str(deal)))

    def test_equal_arguments_give_equal_answers(self):
        rnd = random.Random(1081)
        for deal in way_deals(1082, 30, 4):
            keepers = Keepers(deal.swap, [rnd.randrange(3) for _ in range(len(deal))], Keeper("kin", 2, *deal.swap.strangers))
            for work in (
                most_groups, least_group, lambda told: held_way(told, keepers), lambda told: least_purse(told, keepers, "kin"),
                lambda told: reliers(told, keepers, "kin"), lambda told: Way(told, [list(range(len(told)))][:len(told)]).refined(),
                most_chosen, choice_front, find_row, lambda told: plan(Book(told)), classes,
            ):
                again = Deal(Swap.read(str(deal.swap)), Bounds.read(str(deal.bounds)), list(deal.leanings.pairs)[::-1])
                self.assertEqual(work(deal), work(again))

    def test_papers_are_papers(self):
        deal = Deal(CUP, Bounds.alike(2, 1, 1))
        for value in (most_groups(deal), least_group(deal), most_chosen(deal), choice_front(deal), find_row(deal), plan(Book(deal))):
            self.assertIsInstance(value, Paper)
            self.assertIs(not value, isinstance(value, Denial))
            self.assertEqual(type(value).__name__.lower(), value.word)

    def test_ratios_in_what_is_told(self):
        deal = Deal(CUP, Bounds.alike(2, 2, 0))
        keepers = Keepers(CUP, [1, 1], Keeper("kin", 2, "bob", "ann"))
        book = Book(deal)
        told = [
            *book.sums_now, *book.hopes, Choice.whole(deal).brings, least_laid(deal, "bob").number, least_laid(deal, "bob").closed[0][0],
            least_purse(deal, keepers, "kin").number, keepers.worths[0], keepers.keepers[0].purse, parting(deal, 0, 1).lines[0][1][2],
        ]
        self.assertEqual([Ratio] * len(told), [type(one) for one in told])


if __name__ == "__main__":
    unittest.main()
