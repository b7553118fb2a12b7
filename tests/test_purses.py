"""Least purses and reliers."""

import itertools
import random
import unittest
from fractions import Fraction

from lastgiver.bounds import Bounds
from lastgiver.check_hands import shows_least_purse, shows_reliers
from lastgiver.deals import Deal
from lastgiver.errors import BadDeal, BadKeepers, NoKeeper, TooMany, Unlike
from lastgiver.keepers import Keeper, Keepers
from lastgiver.purses import LeastPurse, NoPurse, Reliers, least_purse, reliers
from lastgiver.ratios import Ratio
from lastgiver.swaps import Swap

from support import CUP, NO_DEALS, NO_NAMES, Case, all_sets, as_fraction, random_swap
from support_ways import (
    BARE, BOTH, NO_BEGINNING, NONE, kept_deals, plain_come_to, plain_held_ways, plain_holds, plain_strokes, right_strokes,
    tight_deal,
)
from test_held_ways import EASED, HANDS, KIN, LESS, NO_KEEPERS, wide_deal

ALL = "ann", "bob", "cay"


def fenced(deal, keepers, name, number):
    """All sets that are come to if this keeper holds no group with worths of number or more; None lets all."""
    def is_stroke(group):
        for keeper in keepers.keepers:
            worth = sum((as_fraction(keepers.worths[one]) for one in group), Fraction(0))
            if keeper.name != name and plain_holds(keepers, keeper, group):
                return True
            if keeper.name == name and plain_holds(keepers, keeper, group, 10 ** 9) and (number is None or worth < number):
                return True
        return len(group) == 1
    return plain_come_to(deal, is_stroke)


class LeastPurseTest(Case):
    def test_wrong_values(self):
        for work in (least_purse, reliers):
            self.check_each_raises(BadDeal("deal"), NO_DEALS, lambda value: work(value, None, None))
            self.check_each_raises(BadKeepers("keepers"), NO_KEEPERS, lambda value: work(BARE, value, None))
            for value in [*NO_NAMES, "ann", "mo", KIN]:
                with self.assertRaises(NoKeeper) as caught:
                    work(BOTH, HANDS, value)
                self.assertIs(value, caught.exception.name)
            self.check_raises(Unlike("swap"), work, deal=wide_deal(40), keepers=HANDS, name="lo")

    def test_sizes(self):
        for work, most in ((least_purse, 8), (reliers, 6)):
            for many in (most, most + 1, 40):
                deal = wide_deal(many)
                keepers = Keepers(deal.swap, [1] * many, Keeper("kin", 0))
                if many == most:
                    self.assertTrue(work(deal, keepers, "kin"))
                else:
                    self.check_raises(TooMany("hands", most), work, deal, keepers, "kin")

    def test_classes(self):
        found = least_purse(EASED, HANDS, "kin")
        self.check_same((LeastPurse, "leastpurse", True, Ratio(2)), (type(found), found.word, bool(found), found.number))
        self.check_same(((((0,), None), ((1, 2), "kin")), ((), (0,))), (found.strokes, found.fence))
        found = least_purse(BARE, HANDS, "lo")
        self.check_same((Ratio(0), (((0, 1, 2), "kin"),), ()), found.parts)
        found = least_purse(BARE, LESS, "lo")
        self.check_same((NoPurse, "nopurse", False, ((),)), (type(found), found.word, bool(found), found.sets))

    def test_edges(self):
        none = Keepers(NONE.swap, [], Keeper("kin", 5))
        self.check_same((Ratio(0), (), ()), least_purse(NONE, none, "kin").parts)
        losing = Keepers(NO_BEGINNING.swap, [1], Keeper("kin", 9, "ann", "bob"))
        self.check_same((), least_purse(NO_BEGINNING, losing, "kin").sets)
        free = Keepers(BARE.swap, [0, 0, 0], Keeper("kin", 5, *ALL))
        self.check_same((Ratio(0), (((0, 1, 2), "kin"),), ()), least_purse(BARE, free, "kin").parts)
        parts = Keepers(BARE.swap, [Ratio(1, 2), Ratio(1, 3), 0], Keeper("kin", 0, *ALL))
        self.check_same((Ratio(5, 6), ((),)), (least_purse(BARE, parts, "kin").number, least_purse(BARE, parts, "kin").fence))

    def cases(self):
        """Deals and keepers of all sorts, and ones on whom all rely in deals with few allowed sets."""
        rnd = random.Random(903)
        found = kept_deals(901, 170)
        few = Deal.read("ann bob | bob ann 2 2 | ann bob 4 2 | ann bob 2 2 | bob ann 2 2 ; 2 2 , 1 0")
        found.append((few, Keepers(few.swap, [3, 1, 2, 2], Keeper("kin", 0, "ann", "bob"))))
        for _ in range(40):
            deal = tight_deal(rnd, random_swap(rnd, rnd.choice([2, 3]), 4))
            found.append((deal, Keepers(deal.swap, [rnd.choice([1, 2, 3]) for _ in range(4)], Keeper("kin", 0, *deal.swap.strangers))))
        return found

    def test_by_trying_all_thresholds(self):
        kinds = []
        for deal, keepers in self.cases():
            for keeper in keepers.keepers:
                found = least_purse(deal, keepers, keeper.name)
                kinds.append(type(found) if not found else min(1, found.number.top))
                tried = {Fraction(0)}
                for group in all_sets(len(deal)):
                    tried.add(sum((as_fraction(keepers.worths[one]) for one in group), Fraction(0)))
                purses = [Ratio(*one.as_integer_ratio()) for one in sorted(tried)]
                does = [one for one in purses if plain_held_ways(deal, keepers.placed(keeper.with_purse(one)))]
                if not does:
                    self.check_same((tuple(fenced(deal, keepers, keeper.name, None)),), found.parts)
                    self.assertIs(NoPurse, type(found))
                    continue
                self.check_same(does[0], found.number)
                self.assertTrue(right_strokes(deal, keepers.placed(keeper.with_purse(found.number)), found.strokes))
                fence = fenced(deal, keepers, keeper.name, as_fraction(found.number)) if does[0].sign else []
                self.check_same(tuple(fence), found.fence)
                self.assertTrue(shows_least_purse(deal, keepers, keeper.name, found))
                other = keepers.placed(keeper.with_purse(7))
                self.assertEqual(found, least_purse(deal=deal, keepers=other, name=keeper.name))
        for kind in (NoPurse, 0, 1):
            self.assertGreater(kinds.count(kind), 8)


class ReliersTest(Case):
    def test_classes(self):
        found = reliers(EASED, HANDS, "kin")
        self.check_same((Reliers, "reliers", True), (type(found), found.word, bool(found)))
        self.check_same(((ALL, (((0,), None), ((1, 2), "kin"))),), found.least)
        self.check_same((((("ann", "bob"), ((), (0,)))), (("ann", "cay"), ((), (0,))), (("bob", "cay"), ((), (0,)))), found.barred)

    def test_nobody_and_all(self):
        rows = Deal(CUP, Bounds.alike(2, 2, 2))
        keepers = Keepers(CUP, [1, 1], Keeper("kin", 9, "bob"))
        found = reliers(rows, keepers, "kin")
        self.check_same(((), ()), (found.least[0][0], found.barred))
        self.assertEqual(1, len(found.least))
        found = reliers(Deal(CUP, Bounds.zero(2)), keepers.placed(Keeper("kin", 1)), "kin")
        self.check_same(((), ((("ann", "bob"), ((),)),)), found.parts)
        found = reliers(NO_BEGINNING, Keepers(NO_BEGINNING.swap, [1], Keeper("kin", 9)), "kin")
        self.check_same(((), ((("ann", "bob"), ()),)), found.parts)
        found = reliers(NONE, Keepers(NONE.swap, [], Keeper("kin", 9)), "kin")
        self.check_same(((((), ()),), ()), found.parts)

    def test_by_trying_all_names(self):
        least = []
        for deal, keepers in kept_deals(902, 90):
            strangers = deal.swap.strangers
            for keeper in keepers.keepers:
                told, does = {}, {}
                for places in all_sets(len(strangers)):
                    names = tuple(strangers[place] for place in places)
                    told[names] = keepers.placed(Keeper(keeper.name, keeper.purse, *names))
                    does[names] = bool(plain_held_ways(deal, told[names]))
                smaller = {one: [other for other in does if set(other) < set(one)] for one in does}
                further = {one: [other for other in does if set(one) < set(other) and len(other) == len(one) + 1] for one in does}
                found = reliers(deal, keepers, keeper.name)
                good = [names for names in does if does[names] and not any(does[other] for other in smaller[names])]
                self.check_same(tuple(good), tuple(names for names, _ in found.least))
                for names, strokes in found.least:
                    self.assertTrue(right_strokes(deal, told[names], strokes))
                bad = [names for names in does if not does[names] and all(does[other] for other in further[names])]
                sets = [plain_come_to(deal, lambda group: bool(plain_strokes(told[names], group))) for names in bad]
                self.check_same(tuple(zip(bad, map(tuple, sets))), found.barred)
                self.assertTrue(shows_reliers(deal, keepers, keeper.name, found))
                least += [len(names) for names, _ in found.least]
        self.assertTrue({0, 2} <= set(least), set(least))

    def test_the_keepers_passed_stay_as_they_were(self):
        before = Keepers(BARE.swap, [1, 1, 1], KIN, Keeper("lo", 1, "ann"))
        for name in ("kin", "lo"):
            reliers(EASED, HANDS, name)
            least_purse(EASED, HANDS, name)
        self.assertEqual(before, HANDS)

    def test_six_strangers(self):
        names = [f"s{place}" for place in range(6)]
        deal = Deal(Swap.ring(*names), Bounds.zero(6))
        keepers = Keepers(deal.swap, [1] * 6, *[Keeper(name, 6, *names) for name in ("k", "l", "m", "n")])
        found = reliers(deal, Keepers(deal.swap, [1] * 6, Keeper("k", 6), *keepers.keepers[1:]), "k")
        self.check_same(((), ()), (found.least[0][0], found.barred))
        alone = reliers(deal, Keepers(deal.swap, [1] * 6, Keeper("k", 6)), "k")
        self.check_same((tuple(names),), tuple(told for told, _ in alone.least))
        self.check_same(tuple(itertools.combinations(names, 5)), tuple(told for told, _ in alone.barred))


if __name__ == "__main__":
    unittest.main()
