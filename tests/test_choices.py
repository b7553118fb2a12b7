"""Choices: inner deals, what they bring, texts, both of two and either."""

import random
import unittest

from lastgiver.bounds import Bounds
from lastgiver.choices import Choice, choices
from lastgiver.deals import Deal
from lastgiver.errors import BadChoice, BadDeal, BadDone, BadText, NoHand, TooMany, Twice
from lastgiver.ratios import Ratio
from lastgiver.swaps import Swap

from support import CUP, NO_DEALS, NO_DONE, NO_HANDS, ODD, Case, all_sets, as_fraction, plain_sums, random_deals
from support_choices import brought, inner_of

THREE = Deal(Swap.read("a b c | a b 1 2 | b c 3 1 | c a 1/2 1 | a b 1 2"), Bounds([1, None, 3], [0, 2, None]), [(0, 3), (2, 1), (3, 1)])
NONE = Deal(NO_HANDS, Bounds.zero(2))
NO_CHOICES = [*ODD, 3, (), [0], "0", THREE]


class ChoiceTest(Case):
    def test_wrong_values(self):
        self.check_each_raises(BadDeal("deal"), NO_DEALS, lambda value: Choice(value, None))
        self.check_each_raises(BadDone("numbers"), NO_DONE, lambda value: Choice(THREE, value))
        self.check_raises(NoHand(4), Choice, deal=THREE, numbers=[0, 0, 4])
        self.check_raises(NoHand(-1), Choice, THREE, (-1,))
        self.check_raises(Twice(3), Choice, THREE, [1, 3, 3, 1])
        self.check_each_raises(BadDeal("deal"), NO_DEALS, Choice.whole)
        self.check_each_raises(BadDeal("deal"), NO_DEALS, Choice.none)

    def test_what_it_keeps(self):
        numbers = [3, 0, 1]
        choice = Choice(THREE, numbers)
        numbers.append(2)
        self.check_same((0, 1, 3), choice.numbers)
        self.assertIs(THREE, choice.deal)
        self.assertEqual("a b c | a b 1 2 | b c 3 1 | a b 1 2 ; 1 0 , wide 2 , 3 wide ; 0 2 , 2 1", str(choice.inner))
        self.check_same((Ratio(0), False), (choice.brings, choice.is_gainful))
        self.check_same((3, [0, 1, 3]), (len(choice), list(choice)))
        self.check_same((Ratio(1, 2), False), (Choice(THREE, [2]).brings, Choice(THREE, [2]).is_gainful))
        self.check_same((Ratio(2), True), (Choice.whole(Deal(CUP, Bounds.zero(2))).brings, Choice.whole(Deal(CUP, Bounds.zero(2))).is_gainful))

    def test_none_and_the_whole_one(self):
        none, every = Choice.none(THREE), Choice.whole(deal=THREE)
        self.check_same(((), Ratio(0), True, 0), (none.numbers, none.brings, none.is_gainful, len(none)))
        self.assertEqual("a b c ; 1 0 , wide 2 , 3 wide", str(none.inner))
        self.check_same((0, 1, 2, 3), every.numbers)
        self.assertEqual(THREE, every.inner)
        self.assertEqual(Choice.none(NONE), Choice.whole(NONE))

    def test_inner_deals(self):
        for deal in random_deals(961, 60):
            for numbers in all_sets(len(deal)):
                choice = Choice(deal, numbers[::-1])
                self.assertEqual(inner_of(deal, numbers), choice.inner)
                self.assertEqual(brought(deal, numbers), as_fraction(choice.brings))
                self.assertIs(all(net >= 0 for net in plain_sums(deal.swap, numbers)), choice.is_gainful)

    def test_numbers_of(self):
        choice = Choice(THREE, [1, 3])
        self.check_same((3, 1), choice.numbers_of([1, 0]))
        self.check_same((), choice.numbers_of(inners=()))
        self.check_each_raises(BadDone("inners"), NO_DONE, choice.numbers_of)
        self.check_raises(NoHand(2), choice.numbers_of, [0, 0, 2])
        self.check_raises(Twice(0), choice.numbers_of, [0, 0])

    def test_what_is_in_it(self):
        choice = Choice(THREE, [1, 3])
        for value in (1, 3, True, 1.0, Ratio(3)):
            self.assertIs(True, value in choice)
        for value in (0, 2, 4, None, "1", False, (1,), Ratio(1, 2), choice, float("nan")):
            self.assertIs(False, value in choice)

    def test_equality(self):
        self.check_equality(lambda: Choice(THREE, [3, 1]), [
            Choice(THREE, [1]), Choice(THREE, [1, 2]), Choice(Deal(THREE.swap, THREE.bounds), [1, 3]), (1, 3),
        ])
        self.assertTrue(Choice(Deal.read(str(THREE)), (1, 3)) == Choice(THREE, [3, 1]))

    def test_both_and_either(self):
        one, other = Choice(THREE, [0, 3]), Choice(Deal.read(str(THREE)), [3, 2])
        self.assertEqual((Choice(THREE, [0, 2, 3]), Choice(THREE, [3])), (one | other, one & other))
        self.assertEqual((Choice.none(THREE), Choice.whole(THREE)), (one & Choice(THREE, [1, 2]), one | Choice(THREE, [1, 2])))
        self.check_same((0, 3), one.numbers)
        wrong = [*NO_CHOICES, Choice(Deal(THREE.swap, THREE.bounds), [0]), Choice.none(NONE)]
        self.check_each_raises(BadChoice("other"), wrong, lambda value: one | value)
        self.check_each_raises(BadChoice("other"), wrong, lambda value: one & value)

    def test_texts(self):
        for numbers, text in [((), "-"), ((2,), "2"), ((3, 0), "0 3"), ((0, 1, 2, 3), "0 1 2 3")]:
            self.assertEqual(text, str(Choice(THREE, numbers)))
            self.assertEqual(Choice(THREE, numbers), Choice.read(THREE, text))
            self.assertEqual(Choice(THREE, numbers), Choice.read(deal=THREE, text=text))
        self.check_each_raises(BadDeal("deal"), NO_DEALS, lambda value: Choice.read(value, None))
        self.check_each_raises(BadText(0, 0), [*[value for value in ODD if value != ""], 3, ["0"]], lambda value: Choice.read(THREE, value))
        for text, word in [
            ("", 0), ("4", 0), ("-1", 0), ("x", 0), (" 0", 0), ("--", 0), ("- ", 1), ("- -", 1), ("- 0", 1), ("0 -", 1), ("0 0", 1),
            ("1 0", 1), ("0 3 2", 2), ("0 4", 1), ("0  1", 1), ("0 ", 1), ("00", 0), ("0 01", 1), ("+1", 0), ("0 1/1", 1),
            ("9" * 61, 0), ("0\n", 0), ("\u0661", 0),
        ]:
            self.check_raises(BadText(0, word), Choice.read, THREE, text)
        self.check_raises(BadText(0, 0), Choice.read, NONE, "0")
        wide = Deal(Swap(CUP.strangers, CUP.hands * 20), Bounds.zero(2))
        self.assertEqual(40, len(Choice.read(wide, " ".join(map(str, range(40))))))
        self.check_raises(BadText(0, 40), Choice.read, wide, " ".join(map(str, range(41))))


class ChoicesTest(Case):
    def test_wrong_values(self):
        self.check_each_raises(BadDeal("deal"), NO_DEALS, lambda value: list(choices(value)))
        for many in (7, 12, 40):
            deal = Deal(Swap(CUP.strangers, (CUP.hands * 20)[:many]), Bounds.zero(2))
            self.check_raises(TooMany("hands", 6), lambda: list(choices(deal=deal)))

    def test_all_in_order(self):
        for many in range(7):
            deal = Deal(Swap(CUP.strangers, (CUP.hands * 3)[:many]), Bounds.zero(2))
            found = list(choices(deal))
            self.assertEqual(all_sets(many), [choice.numbers for choice in found])
            self.assertTrue(all(type(choice) is Choice and choice.deal == deal for choice in found))

    def test_what_is_passed_stays_as_it_was(self):
        rnd = random.Random(962)
        for deal in random_deals(963, 20, 4):
            before = str(deal)
            found = list(choices(deal))
            (rnd.choice(found) | rnd.choice(found)).numbers_of([])
            self.assertEqual(before, str(deal))


if __name__ == "__main__":
    unittest.main()
