"""Every example of the document's sections on chains' papers, dials, fronts and pieces, as a test of its own."""

from lastgiver.bounds import Bounds
from lastgiver.chains import Chain
from lastgiver.check_enough import shows_enough
from lastgiver.check_pieces import shows_fine
from lastgiver.deals import Deal
from lastgiver.dials import Dial
from lastgiver.fine import Fine, closings, fine, openings, sources
from lastgiver.fitting import enough_pieces, fewest_pieces, fitting, least_pieces
from lastgiver.fronts import Front, front
from lastgiver.least import Least, Never, least
from lastgiver.patience import patience
from lastgiver.pieces import cut, pieced, whole_of
from lastgiver.ratios import Ratio
from lastgiver.roads import rank
from lastgiver.swaps import HandOver, Swap

from support import Case

cup = Swap(["ann", "bob"], [HandOver("ann", "bob", 2, 3), HandOver("bob", "ann", 2, 3)])
uneven = Dial.as_told(Deal(cup, Bounds((4, 1), (0, 1))))
loose = Deal(cup, Bounds((0, 0), (2, 2)))
swap = Swap.read("ann bob | ann bob 2 3 | bob ann 2 3")
deal = Deal(swap, Bounds.alike(2, 1, 1))
grain = Deal(swap, Bounds((Ratio(1, 10), 0), (0, Ratio(1, 10))))


class ExamplesTest(Case):
    def told(self, expected, found):
        """The results, written as in the document."""
        self.assertEqual(expected, repr(found))

    def test_chains_of_even_prices(self):
        loads = Swap.read("ann bob | ann bob 1 1 | ann bob 1 1 | bob ann 2 2")
        chain = Chain(rank(loads), (2, 1, 0), [[Ratio(2, 3)] * 3, [Ratio(1, 3), Ratio(2, 3)], [0]])
        self.assertIs(True, shows_enough(loads, chain))

    def test_dials(self):
        found = [str(uneven), uneven.need(cup, (0,)) == (2, "bob", "leaves"), uneven.need(cup, (1,))]
        self.told("['trust ann 4 bob 1 | pledge ann 0 bob 1', True, (None, 'ann', 'leaves')]", found)

    def test_least(self):
        weighted = least(loose, Dial({"ann": 2, "bob": 1}, {})) == Least(1, (0, 1), 1, [()])
        self.told("[True, True]", [least(loose, Dial.all_trust(cup)) == Least(2, (0, 1), 1, [()]), weighted])

    def test_least_from_a_done_set(self):
        found = [least(loose, Dial.all_trust(cup), (0,)) == Least(2, (1,), 0, []), str(least(loose, uneven).number)]
        self.told("[True, '2']", found)

    def test_never(self):
        self.assertIs(True, least(Deal(cup, Bounds((0, 0), (1, 1))), Dial.all_trust(cup)) == Never([()]))

    def test_fronts(self):
        rope = Swap(["ann", "bob"], [HandOver("ann", "bob", 3, 9), HandOver("bob", "ann", 1, 9)])
        found = front(Deal(rope, Bounds.zero(2)), Dial.all_trust(rope), Dial.all_pledge(rope))
        right = found == Front([(1, 3), (3, 1)], [(1, 0), (0, 1)], [[()], [()], [()]])
        self.told("[True, False, True]", [right, found.does(2, 2), found.cheapest(1, 2) == (5, 1)])

    def test_fronts_of_two_trusts(self):
        found = front(loose, Dial.one_trust("ann"), Dial.one_trust("bob"))
        self.assertIs(True, found == Front([(0, 2), (2, 0)], [(1, 0), (0, 1)], [[], [()], []]))

    def test_patience(self):
        found = patience(Deal(cup, Bounds.alike(2, 2, 0)))
        self.told("2/3", found.number)
        self.assertEqual((2, "bob", "leaves"), Dial.by_weeks(cup).need(cup, (0,)))

    def test_pieces(self):
        found = [str(cut(swap, (2, 1))), whole_of((2, 1)), pieced(deal, 1).reached, pieced(deal, 2).order]
        self.told("['ann bob | ann bob 1 3/2 | ann bob 1 3/2 | bob ann 2 3', (0, 0, 1), ((0, 0),), (0, 1, 0, 1)]", found)

    def test_fitting(self):
        tried = list(fitting(deal, 4))
        found = [
            bool(tried[0][1]), bool(tried[1][1]), bool(tried[2][1]), bool(tried[3][1]), least_pieces(deal, 4).denials,
            enough_pieces(deal).pieces, enough_pieces(grain).parts,
        ]
        self.told("[False, True, True, True, (((0, 0),),), 3, ('ann', 'leaves')]", found)

    def test_fewest_pieces(self):
        self.told("((1, 2), (1, 0, 1), (((1, 1), ((0, 0),)),))", fewest_pieces(deal, 2).parts)

    def test_fine(self):
        self.told("[(0, 1), (1, 0), True, (('ann', 'bob'),)]", [openings(grain), closings(grain), bool(fine(grain)), sources(swap)])

    def test_unopened(self):
        self.told("((), ((0, 'ann', 'drawn'), (1, 'bob', 'drawn')))", fine(Deal(swap, Bounds.alike(2, 0, 1))).parts)

    def test_check_pieces(self):
        first, last = [(0, Ratio(1, 20)), (1, Ratio(1, 80))], [(0, Ratio(1, 80)), (1, Ratio(1, 20))]
        self.told("[True, False]", [shows_fine(grain, Fine(first, last, 320)), shows_fine(grain, Fine(first, last, 240))])
