"""What opens and closes, fine pieces, sources."""

import itertools
import random
import unittest

from lastgiver.bounds import Bounds
from lastgiver.check_pieces import shows_fine
from lastgiver.deals import Deal
from lastgiver.errors import BadDeal, BadSwap, Leans, Loser, NoWay
from lastgiver.fine import Fine, Unclosed, Unopened, closings, fine, openings, sources
from lastgiver.pieces import pieced
from lastgiver.ratios import Ratio
from lastgiver.swaps import HandOver, Swap
from lastgiver.turned_deals import exchanged

from support import (
    CUP, NO_DEALS, NO_HANDS, NO_SWAPS, Case, as_fraction, is_fine, plain_objections, plain_opened, random_deals, random_swap,
)

LEANT = Deal(CUP, Bounds.zero(2), [(1, 0)])
GRAIN = Deal(CUP, Bounds((Ratio(1, 10), 0), (0, Ratio(1, 10))))


def some_deals(seed, times):
    """Deals of few hand-overs, many of whose bounds, costs and gains are 0, with their ends allowed."""
    rnd = random.Random(seed)
    while times > 0:
        names = ["ann", "bob", "cay"][:rnd.choice([2, 2, 3])]
        free = rnd.choice([0, 1])
        hands = [HandOver(*rnd.sample(names, 2), rnd.choice([free, 1, 1, 2]), rnd.choice([0, 1, 2, 3, 4])) for _ in range(rnd.randrange(1, 6))]
        swap = Swap(names, hands)
        none, some = [0, 0, 0, 0, 0, 0, 0, 1], [0, Ratio(1, 2), 1, 3, None]
        bounds = Bounds(*[[rnd.choice(told) for _ in names] for told in rnd.choice([(none, some), (some, none), (some, some)])])
        deal = Deal(swap, bounds)
        if deal.is_allowed(()) and deal.is_allowed(list(range(len(swap)))):
            times -= 1
            yield deal


def plain_sources(swap):
    """The sources, by trying all groups."""
    names = swap.strangers
    feeds = {(hand.giver, hand.taker) for hand in swap if hand.gain.sign > 0}
    for between, one, other in itertools.product(names, repeat=3):
        if (one, between) in feeds and (between, other) in feeds:
            feeds.add((one, other))
    found = []
    for size in range(1, len(names) + 1):
        for group in itertools.combinations(names, size):
            together = all((one, other) in feeds for one in group for other in group if one != other)
            fed = any(hand.taker in group and hand.giver not in group and hand.gain.sign > 0 for hand in swap)
            gift = any(hand.taker in group and hand.gain.sign > 0 and hand.cost.sign == 0 for hand in swap)
            gives = any(hand.giver in group and hand.cost.sign > 0 for hand in swap)
            if together and not fed and not gift and gives:
                found.append(group)
    return tuple(sorted(found, key=lambda group: names.index(group[0])))


class WrongValuesTest(Case):
    def test_wrong_values(self):
        for work in (openings, closings, fine):
            self.check_each_raises(BadDeal("deal"), NO_DEALS, lambda value: work(deal=value))
            self.check_raises(Leans(1, 0), work, LEANT)
        self.check_each_raises(BadSwap("swap"), NO_SWAPS, lambda value: sources(swap=value))
        self.check_raises(Loser("b"), sources, Swap.read("a b c | b c 5 1 | b a 0 3"))

    def test_an_empty_or_a_full_set_that_is_not_allowed(self):
        losing = Swap.read("a b | a b 4 1")
        self.check_raises(NoWay((), "a"), fine, Deal(losing, Bounds([0, 0], [3, 0])))
        self.check_raises(NoWay((0,), "a"), fine, Deal(losing, Bounds([3, 0], [4, 0])))
        self.check_raises(NoWay((), "a"), fine, Deal(losing, Bounds([3, 0], [3, 0])))
        both = Swap.read("a b c | a b 4 0 | b c 1 0")
        self.check_raises(NoWay((), "b"), fine, Deal(both, Bounds([9, 0, 0], [4, 0, 0])))
        self.check_raises(NoWay((0, 1), "b"), fine, Deal(both, Bounds([4, 0, 0], [4, 1, 0])))
        self.check_raises(Leans(0, 1), fine, Deal(both, Bounds.zero(3), [(0, 1)]))


class OpeningsTest(Case):
    def test_found_one_by_one(self):
        # 2 opens 1 by what it brings b, and that opens 0.
        swap = Swap.read("a b c | a b 1 9 | b a 1 9 | c b 1 9")
        deal = Deal(swap, Bounds([0, 0, 1], [0, 0, 0]))
        self.check_same((2, 1, 0), openings(deal))
        self.check_same((), closings(deal))
        self.check_same((), openings(deal.with_bounds(Bounds.zero(3))))
        self.check_same((1, 0, 2), openings(deal.with_bounds(Bounds([0, None, None], [None] * 3))))

    def test_the_takers_side(self):
        # Bob's net is 0 and he pledges nothing: he takes nothing ahead of giving something.
        swap = Swap.read("a b | a b 1 1 | b a 1 1")
        self.check_same((), openings(Deal(swap, Bounds([9, 0], [9, 0]))))
        self.check_same((1, 0), openings(Deal(swap, Bounds([9, 9], [9, 0]))))
        self.check_same((0, 1), openings(Deal(swap, Bounds([9, 0], [9, 9]))))
        self.check_same((0, 1), openings(Deal(swap, Bounds([9, 0], [9, None]))))
        free = Swap.read("a b | a b 1 0 | b a 0 1")
        self.check_same((0, 1), openings(Deal(free, Bounds([1, 0], [0, 0]))))

    def test_by_trying(self):
        told = set()
        for deal in some_deals(531, 200):
            told.add((openings(deal), closings(deal)))
            self.check_same(plain_opened(deal), openings(deal))
            self.check_same(plain_opened(exchanged(deal)), closings(deal))
            self.assertEqual(openings(exchanged(deal)), closings(deal))
        self.assertGreater(len(told), 20)
        for deal in random_deals(532, 60, leanings=False):
            self.check_same(plain_opened(deal), openings(deal))
            self.check_same(plain_opened(exchanged(deal)), closings(deal))

    def test_no_hand_over(self):
        none = Deal(NO_HANDS, Bounds.zero(2))
        self.check_same([(), ()], [openings(none), closings(none)])
        self.check_same(((), (), 1), fine(none).parts)


class FineTest(Case):
    def test_papers(self):
        found = fine(GRAIN)
        self.assertIs(Fine, type(found))
        self.assertEqual((True, "fine"), (bool(found), found.word))
        self.assertEqual(((0, 1), (0, 1)), (tuple(pair[0] for pair in found.opening), tuple(pair[0] for pair in found.closing)))
        self.assertEqual({Ratio}, {type(pair[1]) for pair in (*found.opening, *found.closing)})
        self.assertIs(int, type(found.pieces))
        unopened = fine(Deal(CUP, Bounds.alike(2, 0, 1)))
        self.assertIs(Unopened, type(unopened))
        self.check_same(((), ((0, "ann", "drawn"), (1, "bob", "drawn"))), unopened.parts)
        self.check_same((False, "unopened", (), unopened.parts[1]), (bool(unopened), unopened.word, unopened.opened, unopened.against))
        unclosed = fine(Deal(CUP, Bounds.alike(2, 1, 0)))
        self.assertIs(Unclosed, type(unclosed))
        self.check_same(((), ((0, "ann", "leaves"), (1, "bob", "leaves"))), unclosed.parts)
        self.check_same((False, "unclosed", (), unclosed.parts[1]), (bool(unclosed), unclosed.word, unclosed.closed, unclosed.against))

    def test_who_is_against(self):
        swap = Swap.read("a b | a b 1 1 | b a 1 1")
        self.check_same(((), ((0, "b", "leaves"), (1, "b", "drawn"))), fine(Deal(swap, Bounds([9, 0], [9, 0]))).parts)
        # Both are against: the giver is told.
        self.check_same(((), ((0, "a", "drawn"), (1, "b", "drawn"))), fine(Deal(swap, Bounds.zero(2))).parts)
        self.check_same(((), ((0, "a", "drawn"), (1, "a", "leaves"))), fine(Deal(swap, Bounds([0, 9], [0, 9]))).parts)
        self.check_same(((), ((0, "b", "leaves"), (1, "a", "leaves"))), fine(Deal(swap, Bounds([9, 9], [0, 0]))).parts)
        fed = Swap.read("x t u | x t 1 1 | t u 2 2 | u t 2 1")
        found = fine(Deal(fed, Bounds([1, 0, 0], [1, 1, 1])))
        self.check_same((Unclosed, (), ((0, "t", "drawn"), (1, "u", "drawn"), (2, "t", "drawn"))), (type(found), *found.parts))
        gain = Swap.read("a b | a b 1 2 | b a 1 2 | a b 0 0")
        self.check_same(((2,), ((0, "a", "leaves"), (1, "b", "leaves"))), fine(Deal(gain, Bounds([9, 9], [0, 0]))).parts)
        self.check_same(((2,), ((0, "a", "drawn"), (1, "b", "drawn"))), fine(Deal(gain, Bounds([0, 0], [9, 9]))).parts)

    def test_right_papers(self):
        kinds = []
        for deal in some_deals(533, 250):
            found = fine(deal)
            kinds.append(type(found))
            opened, closed = plain_opened(deal), plain_opened(exchanged(deal))
            if len(opened) < len(deal):
                self.assertIs(Unopened, type(found))
                self.assertEqual(opened, found.opened)
                self.assertEqual([number for number in range(len(deal)) if number not in opened], [told[0] for told in found.against])
            elif len(closed) < len(deal):
                self.assertIs(Unclosed, type(found))
                self.assertEqual(closed, found.closed)
            else:
                self.assertTrue(is_fine(deal, *found.parts))
            self.assertIs(True, shows_fine(deal, found))
            self.assertEqual(found, fine(deal))
        self.assertTrue(all(kinds.count(kind) > 5 for kind in (Fine, Unopened, Unclosed)), [kinds.count(kind) for kind in set(kinds)])

    def test_some_number_of_pieces_does_exactly_if_all_open_and_close(self):
        does = 0
        for deal in some_deals(534, 150):
            found = fine(deal)
            most = max(most for most in range(1, 64) if (most + 1) ** max(1, len(deal)) <= 4096)
            tried = [bool(pieced(deal, pieces)) for pieces in range(1, min(most, 12) + 1)]
            if not found:
                self.assertFalse(any(tried))
            elif found.pieces <= most:
                does += 1
                self.assertTrue(pieced(deal, found.pieces))
        self.assertGreater(does, 20)

    def test_no_cutting_does_if_not_all_open_and_close_like_or_unlike(self):
        rnd = random.Random(535)
        for deal in some_deals(536, 150):
            if not fine(deal):
                counts = [rnd.randrange(1, 5) for _ in range(len(deal))]
                self.assertFalse(pieced(deal, counts))

    def test_a_grain_in_one_place_and_many_hand_overs(self):
        rnd = random.Random(540)
        fines = 0
        for _ in range(120):
            swap = random_swap(rnd, rnd.choice([2, 3, 4]), rnd.randrange(6, 14), gainful=True)
            if swap.is_gainful:
                many = len(swap.strangers)
                bounds = [[Ratio(rnd.choice([0, 0, 1]), rnd.choice([7, 1000])) for _ in range(many)] for _ in range(2)]
                deal = Deal(swap, Bounds(*bounds))
                found = fine(deal)
                self.assertIs(True, shows_fine(deal, found))
                if found:
                    fines += 1
                    self.assertTrue(is_fine(deal, *found.parts))
        self.assertGreater(fines, 20)

    def test_great_ratios_and_40_hand_overs(self):
        rnd = random.Random(537)
        names = ("a", "b", "c", "d", "e", "f")
        swap = Swap(names, [HandOver(*rnd.sample(names, 2), Ratio(rnd.randrange(1, 10 ** 30), 10 ** 29 + 3), rnd.randrange(1, 99))
                            for _ in range(40)])
        nets = [max(0, -as_fraction(net)) + 1 for net in swap.nets]
        deal = Deal(swap, Bounds(*[[Ratio(*net.as_integer_ratio()) for net in nets]] * 2))
        self.assertEqual([], plain_objections(deal, range(40)))
        found = fine(deal)
        self.assertIs(Fine, type(found))
        self.assertIs(True, shows_fine(deal, found))


class SourcesTest(Case):
    def test_sources(self):
        self.check_same((("ann", "bob"),), sources(CUP))
        self.check_same((), sources(NO_HANDS))
        self.check_same((), sources(Swap.read("a b | a b 0 0")))
        self.check_same((), sources(Swap.read("a b | a b 0 1 | b a 1 2")))
        # Each pair feeds itself; a feeds the second one, so only the first is a source.
        two = Swap.read("a b c d | a b 1 5 | b a 1 5 | c d 1 5 | d c 1 5")
        self.check_same((("a", "b"), ("c", "d")), sources(two))
        self.check_same((("a", "b"),), sources(two + Swap.read("a b c d | a c 1 1")))
        self.check_same((("a", "c"), ("b", "d")), sources(Swap.read("a b c d | d b 1 5 | b d 1 5 | c a 1 5 | a c 1 5")))

    def test_by_trying_all_groups(self):
        rnd = random.Random(538)
        told = set()
        for _ in range(400):
            swap = random_swap(rnd, rnd.choice([2, 3, 4]), rnd.randrange(9))
            hands = [HandOver(hand.giver, hand.taker, rnd.choice([0, 1, 1, 1, 1, 2]), rnd.choice([0, 2, 3, 4, 5])) for hand in swap]
            swap = Swap(swap.strangers, hands)
            if swap.is_gainful:
                told.add(sources(swap))
                self.check_same(plain_sources(swap), sources(swap))
        self.assertGreater(len(told), 8)

    def test_a_grain_of_each_in_each_source_is_enough(self):
        rnd = random.Random(539)
        both = set()
        for _ in range(400):
            swap = random_swap(rnd, rnd.choice([2, 3, 4]), rnd.randrange(7), gainful=True)
            if swap.is_gainful:
                bounds = [[rnd.choice([0, 0, Ratio(1, 9), None]) for _ in swap.strangers] for _ in range(2)]
                for place, net in enumerate(swap.nets):
                    effects = [hand.effect(swap.strangers[place]) for hand in swap]
                    if net.sign == 0 and any(effect.sign != 0 for effect in effects):
                        bounds[0][place], bounds[1][place] = Ratio(1, 7), None
                deal = Deal(swap, Bounds(*bounds))
                places = [[swap.strangers.index(name) for name in group] for group in sources(swap)]
                enough = all(any(half[place] != 0 for place in group) for group in places for half in bounds)
                both.add(enough)
                self.assertIs(enough, bool(fine(deal)))
        self.assertEqual({False, True}, both)


if __name__ == "__main__":
    unittest.main()
