"""Papers about pieces, right ones and ones bent at each place."""

import itertools
import random
import unittest

from lastgiver.bounds import Bounds
from lastgiver.check_pieces import shows_enough_pieces, shows_fewest_pieces, shows_fine, shows_least_pieces, shows_pieced
from lastgiver.deals import Deal
from lastgiver.errors import BadDeal, Leans, Loser, NoWay
from lastgiver.fine import Fine, Unclosed, Unopened, fine
from lastgiver.fitting import (
    EnoughPieces, FewestPieces, LeastPieces, NoFewest, NoPieces, Tight, enough_pieces, fewest_pieces, least_pieces,
)
from lastgiver.papers import Denial, Paper
from lastgiver.pieces import Pieced, Unpieced, pieced
from lastgiver.ratios import Ratio
from lastgiver.rows import Good, Stuck
from lastgiver.swaps import HandOver, Swap
from lastgiver.turned_deals import exchanged

from support import (
    CUP, NO_DEALS, NO_HANDS, ODD, Case, bent, is_fine, loosened, plain_opened, plain_tally_allowed, random_deals,
)

DEAL = Deal(CUP, Bounds.alike(2, 1, 1))
NEVER = Deal(CUP, Bounds.zero(2))
LEANT = Deal(CUP, Bounds.alike(2, 1, 1), [(1, 0)])
GRAIN = Deal(CUP, Bounds((Ratio(1, 10), 0), (0, Ratio(1, 10))))
NO_PAPERS = [
    *ODD, 3, [], (), ((1, 1), (0, 1)), Good((0, 1)), Stuck([()]), Paper("pieced", (2, 2), (0, 1, 0, 1)), Denial("unpieced", (1, 1), ((0, 0),)),
]


def are_counts(deal, value):
    """Whether a value is a tuple of counts."""
    return isinstance(value, tuple) and len(value) == len(deal) and all(type(one) is int and one > 0 for one in value)


def is_good_order(deal, counts, order):
    """Whether a value is a good piece order."""
    if not isinstance(order, tuple) or not all(type(one) is int and 0 <= one < len(deal) for one in order):
        return False
    if [order.count(number) for number in range(len(deal))] != list(counts):
        return False
    return all(plain_tally_allowed(deal, counts, [order[:k].count(one) for one in range(len(deal))]) for k in range(len(order) + 1))


def are_closed(deal, counts, tallies):
    """Whether a value has tallies as an Unpieced may have."""
    if not isinstance(tallies, tuple):
        return False
    for tally in tallies:
        if not isinstance(tally, tuple) or len(tally) != len(counts) or not all(type(one) is int for one in tally):
            return False
        if not all(0 <= one <= most for one, most in zip(tally, counts)) or not plain_tally_allowed(deal, counts, tally):
            return False
    if len(set(tallies)) < len(tallies) or tuple(counts) in tallies:
        return False
    starts = [(0,) * len(counts)]
    for tally in tallies:
        starts += [(*tally[:at], tally[at] + 1, *tally[at + 1:]) for at in range(len(tally)) if tally[at] < counts[at]]
    return all(one in tallies or not plain_tally_allowed(deal, counts, one) for one in starts)


def is_right(deal, kind, parts):
    """Whether these are the parts of a right paper of this class."""
    many = len(deal)
    if kind is Pieced:
        return are_counts(deal, parts[0]) and is_good_order(deal, *parts)
    if kind is Unpieced:
        return are_counts(deal, parts[0]) and are_closed(deal, *parts)
    if kind in (LeastPieces, NoPieces):
        most, denials = parts[0], parts[-1]
        if type(most) is not int or most < 1 or not isinstance(denials, tuple) or len(denials) != most - (kind is LeastPieces):
            return False
        if not all(are_closed(deal, (place + 1,) * many, told) for place, told in enumerate(denials)):
            return False
        return kind is NoPieces or is_good_order(deal, (most,) * many, parts[1])
    ordered = sorted(itertools.product(range(1, 6), repeat=many), key=lambda one: (sum(one), one))
    if kind is FewestPieces:
        if not are_counts(deal, parts[0]) or sum(parts[0]) > many + 4 or not is_good_order(deal, *parts[:2]):
            return False
        ahead = [one for one in ordered if (sum(one), one) < (sum(parts[0]), parts[0])]
    else:
        if type(parts[0]) is not int or not 0 <= parts[0] <= 4:
            return False
        ahead = [one for one in ordered if sum(one) <= many + parts[0]]
    denials = parts[-1]
    if not isinstance(denials, tuple) or len(denials) != len(ahead):
        return False
    return all(
        isinstance(pair, tuple) and len(pair) == 2 and are_counts(deal, pair[0]) and pair[0] == counts and are_closed(deal, *pair)
        for pair, counts in zip(denials, ahead)
    )


class CheckCase(Case):
    def check_bends(self, deal, shows, paper, least):
        """Bent papers are shown just if they are right all the same."""
        bends = 0
        for parts in bent(paper.parts):
            if isinstance(parts, tuple) and len(parts) == len(paper.parts):
                bends += 1
                self.assertIs(is_right(deal, type(paper), parts), shows(deal, type(paper)(*parts)), parts)
        self.assertGreater(bends, least)

    def check_right(self, deal, shows, paper):
        """A paper is shown, and if it is told otherwise, too; no other class's paper is."""
        self.assertIs(True, shows(deal, paper))
        self.assertIs(True, shows(deal=deal, value=type(paper)(*loosened(paper.parts))))
        below = type("Better", (type(paper),), {})
        self.assertIs(False, shows(deal, below(*paper.parts)))
        for value in NO_PAPERS:
            self.assertIs(False, shows(deal, value))


class PiecedTest(CheckCase):
    def test_wrong_values(self):
        for work in (shows_pieced, shows_least_pieces, shows_fewest_pieces, shows_enough_pieces, shows_fine):
            self.check_each_raises(BadDeal("deal"), NO_DEALS, lambda value: work(value, None))
            self.check_raises(Leans(1, 0), work, deal=LEANT, value=None)

    def test_right_papers(self):
        rnd = random.Random(541)
        for deal in random_deals(542, 60, 3, leanings=False):
            found = pieced(deal, [rnd.randrange(1, 4) for _ in range(len(deal))])
            self.check_right(deal, shows_pieced, found)
        self.check_right(Deal(NO_HANDS, Bounds.zero(2)), shows_pieced, Pieced((), ()))

    def test_bent_papers(self):
        self.check_bends(DEAL, shows_pieced, pieced(DEAL, 2), 30)
        self.check_bends(DEAL, shows_pieced, pieced(DEAL, 1), 25)
        swap = Swap.read("a b c | a b 1 1 | b c 2 3 | c a 1/2 1")
        for bounds in (Bounds.alike(3, 2, 1), Bounds([1, 0, 2], [1, 0, 2]), Bounds.zero(3)):
            self.check_bends(Deal(swap, bounds), shows_pieced, pieced(Deal(swap, bounds), (2, 1, 2)), 30)

    def test_tallies_in_any_order_and_more_than_are_reached(self):
        rnd = random.Random(544)
        several, more = 0, 0
        for deal in random_deals(545, 400, 3, leanings=False):
            counts = tuple(rnd.randrange(1, 4) for _ in range(len(deal)))
            found = pieced(deal, counts)
            if found:
                continue
            several += len(found.reached) > 1
            self.assertIs(True, shows_pieced(deal, Unpieced(counts, rnd.sample(found.reached, len(found.reached)))))
            if found.reached:
                self.assertIs(False, shows_pieced(deal, Unpieced(counts, (*found.reached, found.reached[0]))))
            # All that is allowed and does not lead to the tally of all is the greatest such list.
            every = sorted(itertools.product(*[range(count + 1) for count in counts]), key=lambda one: (sum(one), one))
            leading = set()
            for tally in every[::-1]:
                further = [(*tally[:at], tally[at] + 1, *tally[at + 1:]) for at in range(len(tally))]
                if plain_tally_allowed(deal, counts, tally) and (tally == counts or any(one in leading for one in further)):
                    leading.add(tally)
            greatest = [tally for tally in every if plain_tally_allowed(deal, counts, tally) and tally not in leading]
            more += len(greatest) > len(found.reached)
            self.assertIs(True, shows_pieced(deal, Unpieced(counts, greatest)))
            for left_out in greatest[:6]:
                told = tuple(tally for tally in greatest if tally != left_out)
                self.assertIs(are_closed(deal, counts, told), shows_pieced(deal, Unpieced(counts, told)))
        self.assertTrue(several > 10 and more > 3, (several, more))

    def test_tallies_that_are_not_allowed_and_that_of_all(self):
        self.assertIs(True, shows_pieced(NEVER, Unpieced((1, 1), [(0, 0)])))
        for more in ((1, 0), (0, 1), (1, 1)):
            self.assertIs(False, shows_pieced(NEVER, Unpieced((1, 1), [(0, 0), more])))
        self.assertIs(True, shows_pieced(NEVER, Unpieced((2, 2), [(0, 0)])))
        self.assertIs(False, shows_pieced(NEVER, Unpieced((2, 2), [(0, 0), (2, 0)])))
        every = [tally for tally in itertools.product(range(3), repeat=2) if plain_tally_allowed(DEAL, (2, 2), tally)]
        self.assertIn((2, 2), every)
        self.assertIs(False, shows_pieced(DEAL, Unpieced((2, 2), every)))
        self.assertIs(False, shows_least_pieces(NEVER, NoPieces(1, [[(0, 0), (1, 0)]])))

    def test_no_size_is_refused(self):
        deal = Deal(Swap(CUP.strangers, CUP.hands * 20), Bounds.alike(2, 2, 2))
        self.assertIs(True, shows_pieced(deal, Pieced([1] * 40, list(range(40)))))
        self.assertIs(True, shows_pieced(Deal(deal.swap, Bounds.zero(2)), Unpieced([9] * 40, [[0] * 40])))
        self.assertIs(True, shows_pieced(NEVER, Unpieced([10 ** 30, 7], [[0, 0]])))
        self.assertIs(False, shows_pieced(NEVER, Pieced([10 ** 30, 7], [0, 1])))
        self.assertIs(False, shows_least_pieces(NEVER, LeastPieces(10 ** 30, [0, 1], [])))
        self.assertIs(False, shows_least_pieces(NEVER, NoPieces(10 ** 30, [])))


class FittingTest(CheckCase):
    def test_right_papers(self):
        for deal in random_deals(543, 40, 3, leanings=False):
            self.check_right(deal, shows_least_pieces, least_pieces(deal, 4))
            self.check_right(deal, shows_fewest_pieces, fewest_pieces(deal, 2))
        none = Deal(NO_HANDS, Bounds.zero(2))
        self.check_right(none, shows_least_pieces, LeastPieces(1, (), ()))
        self.check_right(none, shows_fewest_pieces, FewestPieces((), (), ()))
        self.assertIs(False, shows_least_pieces(none, LeastPieces(2, (), ())))
        self.assertIs(False, shows_fewest_pieces(none, NoFewest(0, (((), ()),))))

    def test_bent_papers(self):
        self.check_bends(DEAL, shows_least_pieces, least_pieces(DEAL, 4), 40)
        self.check_bends(NEVER, shows_least_pieces, least_pieces(NEVER, 3), 40)
        self.check_bends(DEAL, shows_fewest_pieces, fewest_pieces(DEAL, 2), 40)
        self.check_bends(NEVER, shows_fewest_pieces, fewest_pieces(NEVER, 1), 60)
        even = Swap(["a", "b"], [HandOver("a", "b", 2, 2), HandOver("b", "a", 2, 2)])
        deal = Deal(even, Bounds([1, 0], [0, Ratio(2, 3)]))
        self.check_bends(deal, shows_least_pieces, least_pieces(deal, 9), 60)
        self.check_bends(deal, shows_fewest_pieces, fewest_pieces(deal, 4), 100)

    def test_a_later_number_or_later_counts(self):
        # 3 pieces do, but the denials of 2 cannot be told.
        self.assertIs(False, shows_least_pieces(DEAL, LeastPieces(3, (0, 1) * 3, (((0, 0),), ((0, 0),)))))
        self.assertIs(False, shows_fewest_pieces(DEAL, FewestPieces((2, 2), (0, 1, 0, 1), (((1, 1), ((0, 0),)), ((1, 2), ((0, 0),))))))
        self.assertIs(False, shows_least_pieces(DEAL, NoPieces(2, (((0, 0),), ((0, 0),)))))
        self.assertIs(True, shows_least_pieces(DEAL, NoPieces(1, (((0, 0),),))))
        self.assertIs(True, shows_fewest_pieces(DEAL, NoFewest(0, [[[1, 1], [[0, 0]]]])))

    def test_more_than_6_hand_overs_and_more_than_4_pieces_beyond(self):
        swap = Swap(CUP.strangers, CUP.hands * 4)
        deal = Deal(swap, Bounds.alike(2, 9, 9))
        self.assertIs(False, shows_fewest_pieces(deal, FewestPieces([1] * 8, list(range(8)), [])))
        six = Deal(Swap(CUP.strangers, CUP.hands * 3), Bounds.alike(2, 9, 9))
        self.assertIs(True, shows_fewest_pieces(six, FewestPieces([1] * 6, list(range(6)), [])))
        for extra in (0, 4):
            paper = fewest_pieces(NEVER, extra)
            self.assertIs(True, shows_fewest_pieces(NEVER, paper))
        more = [[list(counts), [[0, 0]]] for counts in sorted(itertools.product(range(1, 7), repeat=2), key=lambda one: (sum(one), one))
                if sum(counts) <= 7]
        self.assertIs(False, shows_fewest_pieces(NEVER, NoFewest(5, more)))
        self.assertIs(True, shows_fewest_pieces(NEVER, NoFewest(4, [pair for pair in more if sum(pair[0]) <= 6])))
        low = Deal(CUP, Bounds([Ratio(1, 2), 0], [0, Ratio(1, 2)]))
        found = least_pieces(low, 9)
        ahead = sorted(itertools.product(range(1, 10), repeat=2), key=lambda one: (sum(one), one))
        denials, counts = [], None
        for counts in ahead:
            paper = pieced(low, counts)
            if paper:
                break
            denials.append((counts, paper.reached))
        self.assertEqual((True, 8), (bool(found), sum(counts)))
        self.assertIs(False, shows_fewest_pieces(low, FewestPieces(counts, paper.order, denials)))


class EnoughTest(CheckCase):
    def test_wrong_values(self):
        losing = Swap.read("a b c | a b 1 5 | b c 4 1 | a c 1 0")
        self.check_raises(Leans(0, 1), shows_enough_pieces, Deal(losing, Bounds.zero(3), [(0, 1)]), None)
        self.check_raises(Loser("a"), shows_enough_pieces, Deal(losing, Bounds.zero(3)), None)

    def test_papers(self):
        self.check_right(DEAL, shows_enough_pieces, enough_pieces(DEAL))
        self.check_right(NEVER, shows_enough_pieces, enough_pieces(NEVER))
        for pieces in (2, 4, Ratio(3), 3.0, True, None, "3", (3,)):
            self.assertIs(False, shows_enough_pieces(DEAL, EnoughPieces(pieces)))
        one = Deal(CUP, Bounds.alike(2, 9, 9))
        self.assertIs(True, shows_enough_pieces(one, EnoughPieces(1)))
        self.assertIs(False, shows_enough_pieces(one, EnoughPieces(True)))
        for name, side in [("ann", "leaves"), ("bob", "drawn"), ("ann", None), (None, "drawn"), ("ann", "Drawn"), (0, "drawn")]:
            self.assertIs(False, shows_enough_pieces(NEVER, Tight(name, side)))
        self.assertIs(False, shows_enough_pieces(NEVER, EnoughPieces(3)))
        self.assertIs(False, shows_enough_pieces(DEAL, Tight("ann", "drawn")))


class FineTest(CheckCase):
    def test_wrong_values(self):
        losing = Deal(Swap.read("a b | a b 4 1"), Bounds([0, 0], [3, 0]))
        self.check_raises(NoWay((), "a"), shows_fine, deal=losing, value=None)
        self.check_raises(NoWay((0,), "a"), shows_fine, losing.with_bounds(Bounds([3, 0], [4, 0])), None)

    def test_right_papers(self):
        for deal in (GRAIN, DEAL, Deal(CUP, Bounds.alike(2, 0, 1)), Deal(CUP, Bounds.alike(2, 1, 0)), Deal(NO_HANDS, Bounds.zero(2))):
            found = fine(deal)
            self.assertIs(True, shows_fine(deal, found))
            self.assertIs(True, shows_fine(deal=deal, value=type(found)(*loosened(found.parts))))
            for value in [*NO_PAPERS, type("Better", (type(found),), {})(*found.parts)]:
                self.assertIs(False, shows_fine(deal, value))

    def test_bent_fines(self):
        first, last = ((0, Ratio(1, 20)), (1, Ratio(1, 80))), ((0, Ratio(1, 80)), (1, Ratio(1, 20)))
        for deal, parts in ((GRAIN, (first, last, 320)), (GRAIN, fine(GRAIN).parts), (DEAL, fine(DEAL).parts)):
            right, bends = 0, 0
            for told in bent(parts):
                if isinstance(told, tuple) and len(told) == 3:
                    bends += 1
                    expected = is_fine(deal, *told)
                    right += expected
                    self.assertIs(expected, shows_fine(deal, Fine(*told)), told)
            self.assertTrue(0 < right < bends / 2, (right, bends))

    def test_fines_at_their_edges(self):
        wide = Deal(CUP, Bounds.alike(2, None, None))
        self.assertIs(True, shows_fine(wide, Fine((), (), 1)))
        self.assertIs(True, shows_fine(wide, Fine([(0, Ratio(1, 2)), (0, Ratio(1, 4))], [(0, Ratio(1, 4))], 4)))
        self.assertIs(False, shows_fine(wide, Fine([(0, Ratio(1, 2)), (0, Ratio(1, 4))], [(0, Ratio(1, 2))], 4)))
        self.assertIs(False, shows_fine(wide, Fine([(0, Ratio(1, 2)), (0, Ratio(1, 4))], [], 2)))
        self.assertIs(True, shows_fine(wide, Fine([(0, 1)], [(1, 1)], 1)))
        for opening in ([(0, True)], [(0, 0)], [(0, -1)], [(True, 1)], [(2, 1)], [(-1, 1)], [(0,)], [(0, 1, 1)], [0, 1], [(Ratio(0), 1)], 3, None):
            self.assertIs(False, shows_fine(wide, Fine(opening, (), 1)), opening)
        for pieces in (0, -1, True, None, Ratio(1), 1.0, "1", (1,)):
            self.assertIs(False, shows_fine(wide, Fine((), (), pieces)), pieces)
        # Ann trusts 5, the range is 5 and the strangers are two: at sums of 0 two pieces are just enough.
        just = Deal(CUP, Bounds.alike(2, 5, 9))
        self.assertIs(True, shows_fine(just, Fine((), (), 2)))
        self.assertIs(False, shows_fine(just, Fine((), (), 1)))
        self.assertIs(False, shows_fine(Deal(CUP, Bounds.alike(2, Ratio(499, 100), 9)), Fine((), (), 2)))

    def test_denials(self):
        deal = Deal(Swap.ring("a", "b", "c"), Bounds([1, 0, 0], [0, 0, 0]))
        closed = fine(deal)
        self.check_same((Unclosed, (), ((0, "a", "leaves"), (1, "b", "leaves"), (2, "c", "leaves"))), (type(closed), *closed.parts))
        self.assertIs(True, shows_fine(deal, closed))
        self.assertIs(False, shows_fine(deal, Unopened(*closed.parts)))
        self.assertIs(False, shows_fine(deal, Unopened((), ((0, "a", "drawn"), (1, "b", "drawn"), (2, "c", "drawn")))))
        self.assertIs(False, shows_fine(deal, Unopened((0, 1, 2), ())))
        opened = fine(exchanged(deal))
        self.check_same((Unopened, (), ((0, "a", "drawn"), (1, "b", "drawn"), (2, "c", "drawn"))), (type(opened), *opened.parts))
        for told, paper in ((deal, closed), (exchanged(deal), opened)):
            bends = 0
            for parts in bent(paper.parts):
                if isinstance(parts, tuple) and len(parts) == 2:
                    bends += 1
                    self.assertIs(False, shows_fine(told, type(paper)(*parts)), parts)
            self.assertGreater(bends, 40)

    def test_any_order_in_which_each_opens_by_those_ahead(self):
        free = Deal(Swap.read("a b c | a b 1 0 | a c 2 0 | b c 1 2 | c b 1 2"), Bounds([9, 0, 0], [9, 0, 0]))
        against = ((2, "b", "drawn"), (3, "c", "drawn"))
        self.check_same(((0, 1), against), fine(free).parts)
        for opened, told, right in [
            ((0, 1), against, True), ((1, 0), against, True), ((0,), ((1, "a", "drawn"), *against), False), ((0, 0), against, False),
            ((0, 1), against[::-1], False), ((0, 1), against[:1], False), ((0, 1), (*against, against[0]), False),
            ((0, 1, 2), against[1:], False), ((0, 1), ((2, "c", "leaves"), (3, "c", "drawn")), False),
            ((0, 1), ((2, "b", "leaves"), (3, "c", "drawn")), False), ((0, True), against, False), ((0, Ratio(1)), against, False),
            ((0, 1, 0), against, False), ((0, 1, 4), against, False), ((0, 1, -1), against, False), ((0, 1, -4), against, False),
            (None, against, False), ((0, 1), None, False),
        ]:
            self.assertIs(right, shows_fine(free, Unopened(opened, told)), (opened, told))
        chain = Deal(Swap.read("a b c d | b a 1 1 | a b 1 3 | c d 1 2 | d c 1 2"), Bounds([9, 0, 0, 0], [9, 9, 9, 9]))
        against = ((2, "c", "drawn"), (3, "d", "drawn"))
        self.check_same(((1, 0), against), fine(chain).parts)
        self.assertIs(True, shows_fine(chain, Unopened((1, 0), against)))
        self.assertIs(False, shows_fine(chain, Unopened((0, 1), against)))
        # Bob takes nothing ahead of giving something: 0 does not open, though its giver could give.
        even = Deal(Swap.read("a b c d | a b 1 1 | b a 1 1 | c d 1 2 | d c 1 2"), Bounds([9, 0, 0, 0], [9, 0, 9, 9]))
        self.check_same(((), ((0, "b", "leaves"), (1, "b", "drawn"), *against)), fine(even).parts)
        self.assertIs(False, shows_fine(even, Unopened((0, 1), against)))
        turned = exchanged(even)
        told = ((0, "b", "drawn"), (1, "b", "leaves"), (2, "c", "leaves"), (3, "d", "leaves"))
        self.assertIs(True, shows_fine(turned, Unclosed((), told)))
        self.assertIs(False, shows_fine(turned, Unclosed((0, 1), told[2:])))

    def test_both_sides_may_be_told(self):
        swap = Swap.read("a b | a b 1 1 | b a 1 1")
        deal = Deal(swap, Bounds.zero(2))
        for one in ((0, "a", "drawn"), (0, "b", "leaves")):
            for other in ((1, "b", "drawn"), (1, "a", "leaves")):
                self.assertIs(True, shows_fine(deal, Unopened((), (one, other))))
        for one in ((0, "a", "leaves"), (0, "b", "drawn")):
            for other in ((1, "b", "leaves"), (1, "a", "drawn")):
                self.assertIs(True, shows_fine(deal, Unclosed((), (one, other))))
                self.assertIs(False, shows_fine(deal, Unopened((), (one, other))))
        self.assertEqual((), plain_opened(exchanged(deal)))


if __name__ == "__main__":
    unittest.main()
