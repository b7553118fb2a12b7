"""Changes of a deal: what becomes of numbers, names, rows and lines; what stays under even changes, idle hand-overs."""

import itertools
import random
import unittest

from lastgiver.bounds import Bounds
from lastgiver.changed import DealChange, adding, capping, idling, ordering, renaming, scaling, seating
from lastgiver.choices import choices
from lastgiver.deals import Deal
from lastgiver.dials import Dial
from lastgiver.doable import ended
from lastgiver.errors import (
    BadDeal, BadDone, BadHandOver, BadNumber, BadRow, BadSwap, Loser, NoHand, NoStranger, TooMany, Twice, Unlike,
)
from lastgiver.fitting import least_pieces
from lastgiver.least import least
from lastgiver.numbered import Rows
from lastgiver.patience import patience
from lastgiver.plays import played
from lastgiver.ratios import Ratio
from lastgiver.reached import live, reached
from lastgiver.rows import find_row
from lastgiver.sums import sums
from lastgiver.swaps import HandOver, Swap
from lastgiver.together import classes

from support import (
    CUP, NO_AMOUNTS, NO_DEALS, NO_DONE, NO_HANDS, NO_NAMES, NO_RATIOS, NO_ROWS, ODD, Case, all_sets, line, plain_allowed,
    plain_good, plain_good_rows, random_deals, random_dial,
)
from support_ways import has_way

LEANT = Deal(CUP, Bounds([2, None], [None, Ratio(1, 2)]), [(1, 0)])
NEW = ("zoe", "abe", "kim", "lea", "moe", "ned")


def even_changes(rnd, deal):
    """Some even changes of a deal, of each kind."""
    strangers = deal.swap.strangers
    return [
        renaming(deal, dict(zip(strangers, rnd.sample(NEW, len(strangers))))),
        seating(deal, rnd.sample(strangers, len(strangers))),
        ordering(deal, rnd.sample(range(len(deal)), len(deal))),
        scaling(deal, rnd.choice([2, Ratio(1, 3), Ratio(5, 2)])),
        adding(deal, "new"),
        capping(deal),
    ]


def dial_after(change, dial):
    """The dial whose bounds are those of the strangers after a change."""
    names = dict(zip(change.before.swap.strangers, change.names))
    halves = [{names[name]: weight for name, weight in half} for half in (dial.trust_weights, dial.pledge_weights)]
    return Dial(*halves)


class ErrorsTest(Case):
    def test_no_deal(self):
        for work in (
            lambda value: renaming(value, None), lambda value: seating(value, None), lambda value: ordering(value, None),
            lambda value: scaling(value, None), lambda value: adding(value, None), lambda value: idling(value, None, None), capping,
        ):
            self.check_each_raises(BadDeal("deal"), NO_DEALS, work)

    def test_renaming(self):
        wrong = [*ODD, 3, {"ann": "abe"}, {"ann": "abe", "bob": "B"}, {"ann": "abe", "cay": "ben"}, {"ann": "a", "bob": "b", "cay": "c"}]
        self.check_each_raises(BadSwap("names"), wrong, lambda value: renaming(LEANT, value))
        self.check_raises(Twice("zoe"), renaming, deal=LEANT, names={"ann": "zoe", "bob": "zoe"})

    def test_seating(self):
        wrong = [*ODD, 3, ["ann"], ["ann", "ann"], ["ann", "cay"], ["ann", "bob", "cay"], ["ann", None]]
        self.check_each_raises(BadSwap("strangers"), wrong, lambda value: seating(LEANT, value))
        self.check_raises(BadSwap("strangers"), seating, deal=LEANT, strangers="annbob")

    def test_ordering(self):
        self.check_each_raises(BadRow("order"), NO_ROWS, lambda value: ordering(LEANT, value))
        self.check_raises(BadRow("order"), ordering, deal=LEANT, order=None)

    def test_scaling(self):
        self.check_each_raises(BadNumber("ratio"), [*NO_AMOUNTS, 0, Ratio(0)], lambda value: scaling(LEANT, value))
        self.check_raises(BadNumber("ratio"), scaling, deal=LEANT, ratio=-3)

    def test_adding(self):
        self.check_each_raises(BadSwap("strangers"), NO_NAMES, lambda value: adding(LEANT, value))
        self.check_raises(Twice("bob"), adding, deal=LEANT, name="bob")
        five = Deal(Swap(NEW[:5], []), Bounds.zero(5))
        self.assertEqual(6, len(adding(five, "ned").deal.swap.strangers))
        six = adding(five, "ned").deal
        self.check_raises(TooMany("strangers", 6), adding, six, "ann")
        self.check_raises(Twice("zoe"), adding, six, "zoe")
        self.check_raises(BadSwap("strangers"), adding, six, None)

    def test_idling(self):
        self.check_each_raises(BadHandOver("giver"), NO_NAMES, lambda value: idling(LEANT, value, None))
        self.check_each_raises(BadHandOver("taker"), [*NO_NAMES, "zed"], lambda value: idling(LEANT, "zed", value))
        self.check_raises(NoStranger("zed"), idling, LEANT, "zed", "yan")
        self.check_raises(NoStranger("yan"), idling, deal=LEANT, giver="bob", taker="yan")
        for many in (39, 40):
            deal = Deal(Swap(CUP.strangers, (CUP.hands * 20)[:many]), Bounds.zero(2))
            if many == 39:
                self.assertEqual(40, len(idling(deal, "ann", "bob").deal))
            else:
                self.check_raises(TooMany("hands", 40), idling, deal, "ann", "bob")
                self.check_raises(NoStranger("yan"), idling, deal, "ann", "yan")


class ChangeTest(Case):
    def test_what_they_keep(self):
        kept = [
            (renaming(LEANT, {"bob": "abe", "ann": "zoe"}), "zoe abe | zoe abe 2 3 | abe zoe 2 3 ; 2 wide , wide 1/2 ; 1 0", (0, 1), ("zoe", "abe"), 1),
            (renaming(LEANT, {"bob": "ann", "ann": "bob"}), "bob ann | bob ann 2 3 | ann bob 2 3 ; 2 wide , wide 1/2 ; 1 0", (0, 1), ("bob", "ann"), 1),
            (seating(LEANT, ["bob", "ann"]), "bob ann | ann bob 2 3 | bob ann 2 3 ; wide 1/2 , 2 wide ; 1 0", (0, 1), ("ann", "bob"), 1),
            (ordering(LEANT, (1, 0)), "ann bob | bob ann 2 3 | ann bob 2 3 ; 2 wide , wide 1/2 ; 0 1", (1, 0), ("ann", "bob"), 1),
            (scaling(LEANT, Ratio(3, 2)), "ann bob | ann bob 3 9/2 | bob ann 3 9/2 ; 3 wide , wide 3/4 ; 1 0", (0, 1), ("ann", "bob"), Ratio(3, 2)),
            (adding(LEANT, "abe"), "ann bob abe | ann bob 2 3 | bob ann 2 3 ; 2 wide , wide 1/2 , 0 0 ; 1 0", (0, 1), ("ann", "bob"), 1),
            (idling(LEANT, "bob", "ann"), "ann bob | ann bob 2 3 | bob ann 2 3 | bob ann 0 0 ; 2 wide , wide 1/2 ; 1 0", (0, 1), ("ann", "bob"), 1),
            (capping(LEANT), "ann bob | ann bob 2 3 | bob ann 2 3 ; 2 2 , 2 1/2 ; 1 0", (0, 1), ("ann", "bob"), 1),
        ]
        for change, text, numbers, names, factor in kept:
            self.assertIs(DealChange, type(change))
            self.assertIs(LEANT, change.before)
            self.assertEqual(text, str(change.deal))
            self.check_same((numbers, names, Ratio.of(factor)), (change.numbers, change.names, change.factor))
        self.assertEqual("ann bob | ann bob 2 3 | bob ann 2 3 ; 2 wide , wide 1/2 ; 1 0", str(LEANT))

    def test_an_order_of_three(self):
        deal = Deal(Swap.read("a b | a b 1 1 | b a 2 2 | a b 3 3"), Bounds.alike(2, 9, 9), [(0, 2), (1, 2)])
        change = ordering(deal, [2, 0, 1])
        self.assertEqual("a b | a b 3 3 | a b 1 1 | b a 2 2 ; 9 9 , 9 9 ; 1 0 , 2 0", str(change.deal))
        self.check_same((1, 2, 0), change.numbers)
        self.check_same(((1, 2), (2, 1, 0)), (change.done_after([1, 0]), change.row_after([1, 0, 2])))
        self.check_same((1, 0, 2), change.row_before((2, 1, 0)))

    def test_caps(self):
        deal = Deal(Swap.read("a b c | a b 1 5 | a c 2 5 | b c 1/2 9"), Bounds([3, 4, None], [Ratio(7, 2), None, 0]))
        self.assertEqual("3 3 , 1/2 1/2 , 0 0", str(capping(deal).deal.bounds))
        self.assertEqual("0 0 , 0 0", str(capping(Deal(NO_HANDS, Bounds([None, 1], [0, None]))).deal.bounds))

    def test_wrong_values_of_methods(self):
        change = idling(LEANT, "ann", "bob")
        self.check_each_raises(BadDone("done"), NO_DONE, change.done_after)
        self.check_raises(NoHand(2), change.done_after, done=[0, 0, 2])
        self.check_raises(Twice(1), change.done_after, [1, 1])
        self.check_each_raises(BadRow("row"), NO_ROWS, change.row_after)
        wrong = [*[value for value in NO_ROWS if value != (0, 1, 2)], (0, 1), (0, 1, 2, 3), (0, 1, 1)]
        self.check_each_raises(BadRow("row"), wrong, change.row_before)
        lines = [*ODD, "1", 3, [], [1], [1, 2, 3], (1, True), {0: 1, 1: 2}, *[[0, value] for value in NO_RATIOS]]
        self.check_each_raises(BadNumber("line"), lines, change.line_after)
        self.check_raises(BadNumber("line"), adding(LEANT, "abe").line_after, line=[1, 2, 3])

    def test_lines(self):
        self.check_same(line(1, Ratio(-1, 2)), renaming(LEANT, {"bob": "ann", "ann": "bob"}).line_after([1, Ratio(-1, 2)]))
        self.check_same(line(Ratio(-1, 2), 1), seating(LEANT, ("bob", "ann")).line_after((1, Ratio(-1, 2))))
        self.check_same(line(3, Ratio(-3, 2)), scaling(LEANT, 3).line_after(line=[1, Ratio(-1, 2)]))
        self.check_same(line(1, 2, 0), adding(LEANT, "abe").line_after([1, 2]))

    def test_idle_hand_overs_stand_behind(self):
        change = idling(LEANT, "ann", "bob")
        self.check_same(((1, 0, 2), (0, 1)), (change.row_after([1, 0]), change.done_after([1, 0])))
        for row in ((1, 0, 2), (2, 1, 0), [1, 2, 0]):
            self.check_same((1, 0), change.row_before(row))

    def test_what_is_passed_stays_as_it_was(self):
        names, order = {"ann": "zoe", "bob": "abe"}, [1, 0]
        change = renaming(LEANT, names) * ordering(renaming(LEANT, names).deal, order)
        order.append(7)
        names["ann"] = "x"
        self.check_same(((1, 0), ("zoe", "abe")), (change.numbers, change.names))


class TwoChangesTest(Case):
    def test_wrong_values(self):
        change = renaming(LEANT, {"ann": "zoe", "bob": "abe"})
        wrong = [*ODD, 3, Ratio(1), LEANT, change, renaming(LEANT, {"ann": "zoe", "bob": "abe"}), capping(capping(change.deal).deal)]
        self.check_each_raises(Unlike("deal"), wrong, lambda value: change * value)
        self.assertEqual(change.deal, (change * seating(Deal.read(str(change.deal)), ("zoe", "abe"))).deal)

    def test_factors_and_names(self):
        one = renaming(LEANT, {"ann": "bob", "bob": "ann"})
        two = one * seating(one.deal, ("ann", "bob"))
        three = two * scaling(two.deal, Ratio(2, 3))
        four = three * scaling(three.deal, Ratio(9, 2))
        self.check_same((("bob", "ann"), Ratio(3)), (four.names, four.factor))
        self.assertIs(LEANT, four.before)
        self.check_same(line(3, 6), four.line_after([2, 1]))
        self.assertEqual("ann bob", " ".join(four.deal.swap.strangers))

    def test_idle_hand_overs_in_their_order(self):
        one = idling(LEANT, "ann", "bob")
        two = one * ordering(one.deal, [2, 1, 0])
        three = two * idling(two.deal, "bob", "ann")
        four = three * ordering(three.deal, [3, 0, 1, 2])
        self.check_same((2, 1), two.numbers)
        self.check_same((1, 2, 0), two.row_after([1, 0]))
        self.check_same((1, 2, 0, 3), three.row_after([1, 0]))
        self.check_same(((3, 2), (2, 3, 1, 0)), (four.numbers, four.row_after([1, 0])))
        for row in itertools.permutations(range(4)):
            told = four.row_before(row)
            self.check_same(tuple({3: 0, 2: 1}[number] for number in row if number in (2, 3)), told)

    def test_one_behind_another(self):
        rnd = random.Random(1001)
        for deal in random_deals(1002, 40, 4):
            for one in even_changes(rnd, deal):
                if len(one.deal.swap.strangers) == 6 or "new" in one.deal.swap.strangers:
                    continue
                for other in even_changes(rnd, one.deal):
                    both = one * other
                    self.assertEqual((one.before, other.deal), (both.before, both.deal))
                    self.assertEqual(one.factor * other.factor, both.factor)
                    row = tuple(rnd.sample(range(len(deal)), len(deal)))
                    self.assertEqual(other.row_after(one.row_after(row)), both.row_after(row))
                    self.assertEqual(row, both.row_before(both.row_after(row)))
                    done = row[:2]
                    self.assertEqual(other.done_after(one.done_after(done)), both.done_after(done))
                    self.assertEqual(other.line_after(one.line_after(deal.swap.nets)), both.line_after(deal.swap.nets))


class EvenTest(Case):
    def check_sets(self, change):
        """Done sets, rows and sums behind a change are what becomes of those ahead of it."""
        deal, after = change.before, change.deal
        for done in all_sets(len(deal)):
            self.assertIs(plain_allowed(deal, done), plain_allowed(after, change.done_after(done)))
            self.check_same(change.line_after(sums(deal.swap, done)), sums(after.swap, change.done_after(done)))
        self.check_same(change.line_after(deal.swap.nets), after.swap.nets)
        for work in (reached, live):
            self.assertEqual(sorted(change.done_after(done) for done in work(deal)), sorted(work(after)))
        self.assertEqual(sorted(change.row_after(row) for row in plain_good_rows(deal)), sorted(plain_good_rows(after)))
        self.assertEqual(Rows(deal).count, Rows(after).count)

    def check_numbers(self, rnd, change):
        """Least numbers and the like are the same, or times the ratio."""
        deal, after = change.before, change.deal
        dial = random_dial(rnd, deal.swap.strangers)
        one, other = least(deal, dial), least(after, dial_after(change, dial))
        self.assertIs(bool(one), bool(other))
        if one:
            self.assertEqual(one.number * change.factor, other.number)
        if deal.swap.is_gainful:
            one, other = patience(deal), patience(after)
            self.assertEqual(one.number if one else None, other.number if other else None)
        if len(deal.leanings) == 0 and len(deal) < 4:
            one, other = least_pieces(deal, 3), least_pieces(after, 3)
            self.assertEqual(one.pieces if one else None, other.pieces if other else None)

    def test_sets_rows_and_numbers(self):
        rnd = random.Random(1003)
        for deal in random_deals(1004, 60, 4):
            for change in even_changes(rnd, deal):
                self.check_sets(change)
                self.check_numbers(rnd, change)

    def test_plays_classes_and_choices(self):
        rnd = random.Random(1007)
        for deal in random_deals(1008, 50, 4):
            for change in even_changes(rnd, deal):
                after = change.deal
                row = tuple(rnd.sample(range(len(deal)), len(deal)))
                self.assertEqual(played(deal, row).moment, played(after, change.row_after(row)).moment)
                if has_way(deal):
                    told = sorted(change.done_after(numbers) for numbers in classes(deal))
                    self.assertEqual(told, sorted(classes(after)))
                found = {change.done_after(choice.numbers): choice for choice in choices(deal)}
                for choice in choices(after):
                    self.assertIs(bool(ended(found[choice.numbers])), bool(ended(choice)))
                    self.assertEqual(found[choice.numbers].brings * change.factor, choice.brings)

    def test_another_order_turns_what_is_told_first(self):
        deal = Deal(CUP, Bounds.alike(2, 2, 2))
        change = ordering(deal, [1, 0])
        self.check_same((0, 1), find_row(change.deal).row)
        self.check_same((1, 0), change.row_before(find_row(change.deal).row))


class IdleTest(Case):
    def test_sets_and_rows(self):
        rnd = random.Random(1009)
        for deal in random_deals(1010, 60, 4):
            giver, taker = rnd.sample(deal.swap.strangers, 2)
            change = idling(deal, giver, taker)
            many = len(deal)
            self.assertEqual(HandOver(giver, taker, 0, 0), change.deal.swap.hands[many])
            for done in all_sets(many):
                for behind in (done, (*done, many)):
                    self.assertIs(plain_allowed(deal, done), plain_allowed(change.deal, behind))
            self.assertEqual(Rows(deal).count * (many + 1), Rows(change.deal).count)
            first, after = find_row(deal), find_row(change.deal)
            self.assertIs(bool(first), bool(after))
            if first:
                self.check_same((*first.row, many), after.row)
                self.check_same(after.row, change.row_after(first.row))
            for row in itertools.permutations(range(many + 1)):
                self.assertIs(plain_good(deal, change.row_before(row)), plain_good(change.deal, row))

    def test_numbers(self):
        rnd = random.Random(1011)
        for deal in random_deals(1012, 60, 4):
            change = idling(deal, *rnd.sample(deal.swap.strangers, 2))
            dial = random_dial(rnd, deal.swap.strangers)
            one, other = least(deal, dial), least(change.deal, dial)
            self.assertEqual(one.number if one else None, other.number if other else None)
            try:
                one, other = patience(deal), patience(change.deal)
                self.assertEqual(one.number if one else None, other.number if other else None)
            except Loser:
                pass
            if len(deal.leanings) == 0 and len(deal) < 4:
                one, other = least_pieces(deal, 3), least_pieces(change.deal, 3)
                self.assertEqual(one.pieces if one else None, other.pieces if other else None)


if __name__ == "__main__":
    unittest.main()
