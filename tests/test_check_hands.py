"""Whether papers about keepers and laid pledges are right; what a keeper has in hand."""

import itertools
import unittest
from fractions import Fraction

from lastgiver.bounds import Bounds
from lastgiver.check_hands import hand_moments, shows_held, shows_least_laid, shows_least_purse, shows_reliers
from lastgiver.deals import Deal
from lastgiver.errors import BadDeal, BadKeepers, BadPaper, NoKeeper, NoStranger, Unlike
from lastgiver.held_ways import Held, NotHeld, held_way
from lastgiver.keepers import Keeper, Keepers
from lastgiver.laid import LeastLaid, NeverLaid, least_laid, shifted
from lastgiver.papers import Paper
from lastgiver.purses import LeastPurse, NoPurse, Reliers, least_purse, reliers
from lastgiver.ratios import Ratio
from lastgiver.rows import Stuck
from lastgiver.swaps import Swap

from support import (
    CUP, NO_DEALS, NO_NAMES, ODD, Case, all_sets, as_fraction, bent, is_same, loosened, plain_allowed, plain_good, plain_reached,
    random_deals,
)
from support_ways import (
    BARE, BOTH, NO_BEGINNING, NONE, has_way, is_set, kept_deals, pairs_in, plain_held_ways, plain_holds, plain_strokes, right_closed,
    right_strokes,
)
from test_held_ways import EASED, HANDS, KIN, LESS, NO_KEEPERS, wide_deal
from test_laid import BEAR

NO_PAPERS = [*ODD, 3, [], (), ((0, 1),), Paper("held", ()), Stuck([()]), Paper("leastpurse", 0, (), ())]
ALL = ("ann", "bob", "cay")


def stroke_test(keepers):
    """Whether a group is a stroke with these keepers."""
    return lambda group: bool(plain_strokes(keepers, group))


def below_test(keepers, name, number):
    """Whether a group is a stroke if this keeper holds none with worths of number or more; None lets all."""
    def is_stroke(group):
        worth = sum((as_fraction(keepers.worths[one]) for one in group), Fraction(0))
        held = [
            plain_holds(keepers, keeper, group, None if keeper.name != name else 10 ** 9)
            and (keeper.name != name or number is None or worth < as_fraction(number))
            for keeper in keepers.keepers
        ]
        return len(group) == 1 or any(held)
    return is_stroke


def is_amount_told(value):
    """Whether a value is a ratio from 0 on."""
    return isinstance(value, Ratio) and value.sign >= 0 or type(value) is int and value >= 0


def right_purse(deal, keepers, name, parts):
    """Whether these are the parts of a right LeastPurse."""
    number, strokes, fence = parts
    if not is_amount_told(number):
        return False
    keeper = next(one for one in keepers.keepers if one.name == name)
    if not right_strokes(deal, keepers.placed(keeper.with_purse(number)), strokes):
        return False
    return fence == () if number == 0 else right_closed(deal, below_test(keepers, name, number), fence)


def right_reliers(deal, keepers, name, parts):
    """Whether these are the parts of a right Reliers."""
    keeper = next(one for one in keepers.keepers if one.name == name)
    told = {}
    for places in all_sets(len(deal.swap.strangers)):
        names = tuple(deal.swap.strangers[place] for place in places)
        told[names] = keepers.placed(Keeper(name, keeper.purse, *names))
    does = {names for names in told if plain_held_ways(deal, told[names])}
    least = [names for names in does if not any(set(other) < set(names) for other in does)]
    barred = [
        names for names in told
        if names not in does and all(other in does for other in told if set(names) < set(other))
    ]
    for pairs, right in zip(parts, (least, barred)):
        if pairs_in(pairs) is None or not all(isinstance(names, tuple) and all(type(one) is str for one in names) for names, _ in pairs):
            return False
        if sorted(names for names, _ in pairs) != sorted(right):
            return False
    if not all(right_strokes(deal, told[names], strokes) for names, strokes in parts[0]):
        return False
    return all(right_closed(deal, stroke_test(told[names]), sets) for names, sets in parts[1])


def is_closed_list(deal, sets):
    """Whether a value has the sets of a closed list, in any order."""
    if not isinstance(sets, tuple) or not all(is_set(len(deal), done) for done in sets) or len(set(sets)) < len(sets):
        return False
    return right_closed(deal, lambda group: len(group) == 1, sets)


def right_laid(deal, name, found, parts):
    """Whether these are the parts of a right paper, of which found is one."""
    closed = parts[-1]
    if len(parts) == 3:
        if not is_same(parts[0], found.number) or not isinstance(parts[1], tuple):
            return False
        if not all(type(one) is int for one in parts[1]) or sorted(parts[1]) != list(range(len(deal))):
            return False
        if not plain_good(shifted(deal, {name: found.number}), parts[1]):
            return False
    if pairs_in(closed) is None or len(closed) != len(found.closed):
        return False
    for amount, _ in found.closed:
        told = [sets for one, sets in closed if is_same(one, amount)]
        if len(told) != 1 or not is_closed_list(shifted(deal, {name: amount}), told[0]):
            return False
    return True


class HeldTest(Case):
    def test_wrong_values(self):
        self.check_each_raises(BadDeal("deal"), NO_DEALS, lambda value: shows_held(value, None, None))
        self.check_each_raises(BadKeepers("keepers"), NO_KEEPERS, lambda value: shows_held(BARE, value, None))
        self.check_raises(Unlike("swap"), shows_held, deal=BOTH, keepers=HANDS, value=None)
        for value in [*NO_PAPERS, LeastPurse(0, [], [])]:
            self.assertIs(False, shows_held(BARE, HANDS, value))

    def test_right_papers(self):
        for deal, keepers in kept_deals(921, 80):
            found = held_way(deal, keepers)
            self.assertIs(True, shows_held(deal, keepers, found))
            self.assertIs(True, shows_held(deal=deal, keepers=keepers, value=type(found)(*loosened(found.parts))))
            for strokes in plain_held_ways(deal, keepers)[:20]:
                self.assertIs(True, shows_held(deal, keepers, Held(strokes)))
            if not found:
                self.assertIs(True, shows_held(deal, keepers, NotHeld(found.sets[::-1])))

    def test_bent_papers(self):
        kinds = set()
        told = [(BARE, HANDS), (EASED, LESS), (BARE, LESS), (NONE, Keepers(NONE.swap, [])), *kept_deals(922, 30, 3)]
        for deal, keepers in told:
            found = held_way(deal, keepers)
            kinds.add(type(found))
            for parts in bent(found.parts):
                if isinstance(parts, tuple) and len(parts) == 1:
                    right = right_strokes(deal, keepers, parts[0]) if found else right_closed(deal, stroke_test(keepers), parts[0])
                    self.assertIs(right, shows_held(deal, keepers, type(found)(*parts)), parts)
        self.assertEqual({Held, NotHeld}, kinds)

    def test_any_closed_sets(self):
        for deal, keepers in kept_deals(923, 40, 3):
            for many in range(4):
                for sets in itertools.combinations(all_sets(len(deal)), many):
                    right = right_closed(deal, stroke_test(keepers), sets)
                    self.assertIs(right, shows_held(deal, keepers, NotHeld(sets)))

    def test_strokes_with_the_wrong_keeper(self):
        self.assertIs(True, shows_held(EASED, HANDS, Held([([0], None), ([1, 2], "kin")])))
        for strokes in (
            [([0], "kin"), ([1, 2], "kin")], [([0], None), ([1, 2], "lo")], [([0], None), ([1, 2], None)], [([0], None), ([1, 2], "ann")],
            [([0], None), ([2, 1], "kin")], [([1, 2], "kin"), ([0], None)], [([0], None), ([1, 2], "kin"), ([], None)],
            [([0], 0), ([1, 2], "kin")], [([0], False), ([1, 2], "kin")], [([0], None), ([1, True], "kin")],
        ):
            self.assertIs(False, shows_held(EASED, HANDS, Held(strokes)))
        self.assertIs(False, shows_held(EASED, HANDS.placed(KIN.with_purse(Ratio(199, 100))), Held([([0], None), ([1, 2], "kin")])))

    def test_nine_hand_overs(self):
        for many in (8, 9, 40):
            keepers = Keepers(wide_deal(many).swap, [1] * many)
            strokes = [([number], None) for number in range(many)]
            self.assertIs(many == 8, shows_held(wide_deal(many), keepers, Held(strokes)))
        deal = wide_deal(9).with_bounds(Bounds.zero(2))
        self.assertIs(False, shows_held(deal, Keepers(deal.swap, [1] * 9), NotHeld([()])))

    def test_no_hand_over(self):
        none = Keepers(NONE.swap, [])
        self.assertIs(True, shows_held(NONE, none, Held([])))
        for value in (NotHeld([]), NotHeld([()]), Held([((), None)]), Held(None)):
            self.assertIs(False, shows_held(NONE, none, value))
        keepers = Keepers(NO_BEGINNING.swap, [1])
        self.assertIs(True, shows_held(NO_BEGINNING, keepers, NotHeld([])))
        self.assertIs(False, shows_held(NO_BEGINNING, keepers, NotHeld([()])))


class LeastPurseTest(Case):
    def test_wrong_values(self):
        for work in (shows_least_purse, shows_reliers):
            self.check_each_raises(BadDeal("deal"), NO_DEALS, lambda value: work(value, None, None, None))
            self.check_each_raises(BadKeepers("keepers"), NO_KEEPERS, lambda value: work(BARE, value, None, None))
            for value in [*NO_NAMES, "ann", "mo"]:
                with self.assertRaises(NoKeeper):
                    work(BOTH, HANDS, value, None)
            self.check_raises(Unlike("swap"), work, deal=BOTH, keepers=HANDS, name="kin", value=None)
            for value in [*NO_PAPERS, Held([])]:
                self.assertIs(False, work(BARE, HANDS, "kin", value))

    def test_right_papers(self):
        for deal, keepers in kept_deals(931, 80):
            for keeper in keepers.keepers:
                found = least_purse(deal, keepers, keeper.name)
                self.assertIs(True, shows_least_purse(deal, keepers, keeper.name, found))
                again = type(found)(*loosened(found.parts))
                self.assertIs(True, shows_least_purse(deal=deal, keepers=keepers, name=keeper.name, value=again))
                again = type(found)(*found.parts[:-1], found.parts[-1][::-1])
                self.assertIs(True, shows_least_purse(deal, keepers, keeper.name, again))

    def test_bent_papers(self):
        kinds = set()
        told = [(BARE, HANDS), (EASED, LESS), (NONE, Keepers(NONE.swap, [], Keeper("kin", 0))), *kept_deals(932, 40, 3)]
        for deal, keepers in told:
            for keeper in keepers.keepers:
                found = least_purse(deal, keepers, keeper.name)
                kinds.add(type(found) if not found else bool(found.number))
                for parts in bent(found.parts):
                    if isinstance(parts, tuple) and len(parts) == len(found.parts):
                        if found:
                            right = right_purse(deal, keepers, keeper.name, parts)
                        else:
                            right = right_closed(deal, below_test(keepers, keeper.name, None), parts[0])
                        self.assertIs(right, shows_least_purse(deal, keepers, keeper.name, type(found)(*parts)), parts)
        self.assertEqual({NoPurse, True, False}, kinds)

    def test_numbers_too_great_and_too_small(self):
        strokes = [([0, 1, 2], "kin")]
        self.assertIs(True, shows_least_purse(BARE, LESS, "kin", LeastPurse(3, strokes, [()])))
        for number in (2, 4, Ratio(7, 2), 0, -3, True, None, "3", 3.0):
            self.assertIs(False, shows_least_purse(BARE, LESS, "kin", LeastPurse(number, strokes, [()])))
        self.assertIs(True, shows_least_purse(BARE, HANDS, "lo", LeastPurse(0, strokes, [])))
        for fence in ([()], None, 0, [[0]]):
            self.assertIs(False, shows_least_purse(BARE, HANDS, "lo", LeastPurse(0, strokes, fence)))
        self.assertIs(False, shows_least_purse(BARE, HANDS, "lo", LeastPurse(1, strokes, [()])))
        self.assertIs(False, shows_least_purse(BARE, LESS, "kin", NoPurse([()])))
        self.assertIs(True, shows_least_purse(BARE, LESS, "lo", NoPurse([()])))

    def test_groups_of_strangers_who_do_not_rely(self):
        deal = Deal(Swap.read("ann bob cay | ann bob 1 1 | bob ann 1 1 | ann cay 1 1 | cay ann 1 1"), Bounds.zero(3))
        keepers = Keepers(deal.swap, [1, 1, 2, 3], Keeper("kin", 9, "ann", "cay"), Keeper("lo", 2, "ann", "bob"))
        strokes = [([0, 1], "lo"), ([2, 3], "kin")]
        self.check_same((Ratio(5), ((), (0, 1))), least_purse(deal, keepers, "kin").parts[::2])
        for fence, right in (([[], [0, 1]], True), ([[]], False), ([[], [0, 1], [2, 3]], False)):
            self.assertIs(right, shows_least_purse(deal, keepers, "kin", LeastPurse(5, strokes, fence)))
        alone = Keepers(deal.swap, [1, 1, 2, 3], Keeper("kin", 9, "ann", "cay"))
        self.check_same((((), (2, 3)),), least_purse(deal, alone, "kin").parts)
        self.assertIs(True, shows_least_purse(deal, alone, "kin", NoPurse([[2, 3], []])))
        self.assertIs(False, shows_least_purse(deal, alone, "kin", LeastPurse(5, strokes, [[]])))
        # What kin holds not for bob is not come to, however little it is worth.
        gain = Deal(Swap.read("ann bob cay | ann bob 1 1 | bob ann 1 1 | ann cay 1 3 | cay ann 1 3"), Bounds([0, 0, 0], [None, None, None]))
        alone = Keepers(gain.swap, [1, 1, 2, 3], Keeper("kin", 9, "ann", "cay"))
        strokes = [([2, 3], "kin"), ([0], None), ([1], None)]
        self.assertEqual(LeastPurse(5, strokes, [[]]), least_purse(gain, alone, "kin"))
        self.assertIs(True, shows_least_purse(gain, alone, "kin", LeastPurse(5, strokes, [[]])))

    def test_nine_hand_overs(self):
        for many in (8, 9, 40):
            keepers = Keepers(wide_deal(many).swap, [1] * many, Keeper("kin", 0))
            strokes = [([number], None) for number in range(many)]
            self.assertIs(many == 8, shows_least_purse(wide_deal(many), keepers, "kin", LeastPurse(0, strokes, [])))


class ReliersTest(Case):
    def test_right_papers(self):
        for deal, keepers in kept_deals(941, 50):
            for keeper in keepers.keepers:
                found = reliers(deal, keepers, keeper.name)
                self.assertIs(True, shows_reliers(deal, keepers, keeper.name, found))
                again = Reliers(*loosened(found.parts))
                self.assertIs(True, shows_reliers(deal=deal, keepers=keepers, name=keeper.name, value=again))
                self.assertIs(True, shows_reliers(deal, keepers, keeper.name, Reliers(found.least[::-1], found.barred[::-1])))

    def test_bent_papers(self):
        told = [(BARE, HANDS), (NONE, Keepers(NONE.swap, [], Keeper("kin", 0))), *kept_deals(942, 8, 3)]
        for deal, keepers in told:
            for keeper in keepers.keepers:
                found = reliers(deal, keepers, keeper.name)
                for parts in bent(found.parts):
                    if isinstance(parts, tuple) and len(parts) == 2:
                        right = right_reliers(deal, keepers, keeper.name, parts)
                        self.assertIs(right, shows_reliers(deal, keepers, keeper.name, Reliers(*parts)), parts)

    def test_seven_hand_overs(self):
        for many in (6, 7, 40):
            keepers = Keepers(wide_deal(many).swap, [1] * many, Keeper("kin", 0))
            least = [((), [([number], None) for number in range(many)])]
            self.assertIs(many == 6, shows_reliers(wide_deal(many), keepers, "kin", Reliers(least, [])))


class LeastLaidTest(Case):
    def test_wrong_values(self):
        self.check_each_raises(BadDeal("deal"), NO_DEALS, lambda value: shows_least_laid(value, None, None))
        for value in [*NO_NAMES, "zed"]:
            with self.assertRaises(NoStranger):
                shows_least_laid(deal=BEAR, name=value, value=None)
        for value in [*NO_PAPERS, Held([]), Paper("neverlaid", ())]:
            self.assertIs(False, shows_least_laid(BEAR, "bob", value))

    def test_right_papers(self):
        for deal in random_deals(951, 80, 4):
            for name in deal.swap.strangers:
                found = least_laid(deal, name)
                self.assertIs(True, shows_least_laid(deal, name, found))
                self.assertIs(True, shows_least_laid(deal=deal, name=name, value=type(found)(*loosened(found.parts))))
                turned = tuple((amount, sets[::-1]) for amount, sets in found.closed[::-1])
                self.assertIs(True, shows_least_laid(deal, name, type(found)(*found.parts[:-1], turned)))

    def test_bent_papers(self):
        kinds = set()
        for deal in [BEAR, Deal(CUP, Bounds.alike(2, 1, 0)), NONE, NO_BEGINNING, *random_deals(952, 40, 3)]:
            for name in deal.swap.strangers:
                found = least_laid(deal, name)
                kinds.add((type(found), len(found.closed) > 0))
                for parts in bent(found.parts):
                    if isinstance(parts, tuple) and len(parts) == len(found.parts):
                        right = right_laid(deal, name, found, parts)
                        self.assertIs(right, shows_least_laid(deal, name, type(found)(*parts)), parts)
        self.assertEqual(4, len(kinds))

    def test_any_row_and_any_closed_list(self):
        # A closed list may have more than what is reached.
        deal = Deal(CUP, Bounds([2, 2], [2, 0]))
        self.check_same((Ratio(0), (0, 1), ()), least_laid(BEAR.with_bounds(Bounds([2, 2], [0, 2])), "ann").parts)
        for row in itertools.permutations(range(2)):
            value = LeastLaid(0, row, [])
            self.assertIs(plain_good(deal, row), shows_least_laid(deal, "ann", value))
        for deal in random_deals(953, 60, 3):
            if has_way(deal) or not plain_allowed(deal, ()):
                continue
            for name in deal.swap.strangers:
                found = least_laid(deal, name)
                more = [
                    (amount, [done for done in all_sets(len(deal)) if plain_allowed(shifted(deal, {name: amount}), done)])
                    for amount, _ in found.closed
                ]
                self.assertIs(True, shows_least_laid(deal, name, NeverLaid(more)))
                self.assertEqual([plain_reached(shifted(deal, {name: amount})) for amount, _ in found.closed],
                                 [list(sets) for _, sets in found.closed])

    def test_a_number_that_is_not_the_least(self):
        self.assertIs(True, shows_least_laid(BEAR, "bob", LeastLaid(2, [0, 1], [[0, [[]]]])))
        for number, closed in ((0, []), (1, [[0, [[]]]]), (3, [[0, [[]]], [2, [[]]]]), (2, []), (2, [[0, [[]]], [1, [[]]]]), (True, [[0, [[]]]])):
            self.assertIs(False, shows_least_laid(BEAR, "bob", LeastLaid(number, [0, 1], closed)))
        self.assertIs(False, shows_least_laid(BEAR, "bob", LeastLaid(2, [1, 0], [[0, [[]]]])))
        self.assertIs(False, shows_least_laid(BEAR, "bob", NeverLaid([[0, [[]]]])))

    def test_seven_hand_overs(self):
        for many in (6, 7, 40):
            value = LeastLaid(0, list(range(many)), [])
            self.assertIs(many == 6, shows_least_laid(wide_deal(many), "ann", value))


class MomentsTest(Case):
    def test_wrong_values(self):
        self.check_each_raises(BadDeal("deal"), NO_DEALS, lambda value: list(hand_moments(value, None, None)))
        self.check_each_raises(BadKeepers("keepers"), NO_KEEPERS, lambda value: list(hand_moments(BARE, value, None)))
        self.check_raises(Unlike("swap"), lambda: list(hand_moments(deal=BOTH, keepers=HANDS, held=None)))
        wrong = [*NO_PAPERS, NotHeld([()]), Held([]), Held([((0, 1, 2), "lo")]), held_way(BARE, LESS)]
        self.check_each_raises(BadPaper("held"), wrong, lambda value: list(hand_moments(BARE, HANDS, value)))
        self.assertIs(True, shows_held(BARE, LESS, NotHeld([()])))
        self.check_raises(BadPaper("held"), lambda: list(hand_moments(BARE, LESS, NotHeld([()]))))
        long = wide_deal(9)
        paper = Held([([number], None) for number in range(9)])
        self.check_raises(BadPaper("held"), lambda: list(hand_moments(long, Keepers(long.swap, [1] * 9), paper)))

    def test_moments(self):
        worths = Keepers(BARE.swap, [Ratio(1, 2), 0, 2], KIN)
        found = list(hand_moments(EASED, worths, Held([[[0], None], [[1, 2], "kin"]])))
        self.check_same([("over", 0, Ratio(0)), ("in", 1, Ratio(0)), ("in", 2, Ratio(2)), ("out", 1, Ratio(2)), ("out", 2, Ratio(0))], found)
        self.check_same([], list(hand_moments(NONE, Keepers(NONE.swap, []), Held([]))))
        for deal, keepers in kept_deals(961, 60):
            for strokes in plain_held_ways(deal, keepers)[:5]:
                hand, told = Fraction(0), []
                for group, name in strokes:
                    if name is None:
                        told.append(("over", group[0], 0))
                        continue
                    for side, sign in (("in", 1), ("out", -1)):
                        for number in group:
                            hand += sign * as_fraction(keepers.worths[number])
                            told.append((side, number, hand))
                found = list(hand_moments(deal, keepers, Held(strokes)))
                self.assertEqual(told, [(side, number, as_fraction(worth)) for side, number, worth in found])
                self.assertTrue(all(type(worth) is Ratio for _, _, worth in found))


if __name__ == "__main__":
    unittest.main()
