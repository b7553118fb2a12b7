"""Papers about least numbers, fronts and patience, right ones and ones bent at each place."""

import itertools
import random
import unittest

from lastgiver.bounds import Bounds
from lastgiver.check_least import shows_front, shows_least, shows_patience
from lastgiver.deals import Deal
from lastgiver.dials import Dial
from lastgiver.errors import BadDeal, BadDial, BadDone, Loser, NoHand, NoStranger, Twice
from lastgiver.fronts import Front, front
from lastgiver.least import Least, Never, least
from lastgiver.papers import Denial, Paper
from lastgiver.patience import Patience, patience
from lastgiver.ratios import Ratio
from lastgiver.rows import Good, Stuck
from lastgiver.swaps import Swap

from support import (
    CUP, NO_DEALS, NO_DONE, NO_HANDS, ODD, Case, all_sets, as_fraction, bent, loosened, plain_closure, plain_needs, random_deals,
    random_dial, random_swap,
)

LOOSE = Deal(CUP, Bounds([0, 0], [2, 2]))
TRUST, PLEDGE = Dial.all_trust(CUP), Dial.all_pledge(CUP)
NO_DIALS = [*ODD, CUP, Bounds.zero(2), [], 3, "trust | pledge", LOOSE]
NO_PAPERS = [*ODD, 3, [], (), (2, (0, 1), 1, ((),)), Good((0, 1)), Stuck([()]), Paper("least", 2, (0, 1), 1, [()]), Denial("never", [()])]


def is_amount(value):
    """Whether a value is a ratio from 0 on."""
    return (type(value) is int or type(value) is Ratio) and as_fraction(value) >= 0


def is_row(value, numbers):
    """Whether a value is a tuple of these numbers, each once."""
    return isinstance(value, tuple) and all(type(one) is int for one in value) and sorted(value) == sorted(numbers)


def are_just(value, sets):
    """Whether a value is the tuple of these sets."""
    if not isinstance(value, tuple) or value != tuple(sets):
        return False
    return all(type(number) is int for done in value for number in done)


def is_right_least(deal, dial, done, parts):
    """Whether these are the parts of a right Least."""
    number, row, pinch, fence = parts
    needs = {one: told[0] for one, told in plain_needs(deal, (dial,)).items()}
    if not is_amount(number) or type(pinch) is not int or not is_row(row, [one for one in range(len(deal)) if one not in done]):
        return False
    sets = [tuple(sorted((*done, *row[:k]))) for k in range(len(row) + 1)]
    number = as_fraction(number)
    if not all(one in needs and needs[one] <= number for one in sets) or number not in [needs[one] for one in sets]:
        return False
    if pinch != [needs[one] for one in sets].index(number):
        return False
    below = plain_closure([one for one, need in needs.items() if need < number], len(deal), done)
    return tuple(range(len(deal))) not in below and are_just(fence, below)


def is_right_front(deal, one, other, parts):
    """Whether these are the parts of a right Front."""
    points, rows, fences = parts
    needs = plain_needs(deal, (one, other))
    if not all(isinstance(part, tuple) for part in parts) or not len(points) == len(rows) == len(fences) - 1 > 0:
        return False
    if not all(isinstance(point, tuple) and len(point) == 2 and all(map(is_amount, point)) for point in points):
        return False
    told = [(as_fraction(x), as_fraction(y)) for x, y in points]
    if any(not (a[0] < b[0] and a[1] > b[1]) for a, b in zip(told, told[1:])):
        return False
    for (x, y), row in zip(told, rows):
        sets = [tuple(sorted(row[:k])) for k in range(len(row) + 1)] if is_row(row, range(len(deal))) else [None]
        if not all(done in needs and needs[done][0] <= x and needs[done][1] <= y for done in sets):
            return False
    for x, y, fence in zip([*[x for x, _ in told], None], [None, *[y for _, y in told]], fences):
        below = [done for done, (a, b) in needs.items() if (x is None or a < x) and (y is None or b < y)]
        reached = plain_closure(below, len(deal))
        if tuple(range(len(deal))) in reached or not are_just(fence, reached):
            return False
    return True


def apart(rnd, names):
    """Two dials that have no bound in common."""
    one, other = random_dial(rnd, names), random_dial(rnd, names)
    trusts, pledges = dict(one.trust_weights), dict(one.pledge_weights)
    return one, Dial(*[{name: weight for name, weight in told if name not in mine}
                       for told, mine in ((other.trust_weights, trusts), (other.pledge_weights, pledges))])


class LeastTest(Case):
    def test_wrong_values(self):
        strange = Dial({"zed": 1}, {"cay": 1})
        self.check_each_raises(BadDeal("deal"), NO_DEALS, lambda value: shows_least(value, None, None, None))
        self.check_each_raises(BadDial("dial"), NO_DIALS, lambda value: shows_least(LOOSE, value, None, None))
        self.check_each_raises(BadDone("done"), NO_DONE, lambda value: shows_least(LOOSE, strange, None, value))
        self.check_raises(NoHand(2), shows_least, deal=LOOSE, dial=strange, value=None, done=[0, 0, 2])
        self.check_raises(Twice(1), shows_least, LOOSE, strange, None, [1, 0, 1])
        self.check_raises(NoStranger("cay"), shows_least, LOOSE, strange, None, [0])
        for value in NO_PAPERS:
            self.assertIs(False, shows_least(LOOSE, TRUST, value))

    def test_right_papers(self):
        rnd = random.Random(471)
        for deal in random_deals(472, 120, 6):
            dial = random_dial(rnd, deal.swap.strangers)
            done = rnd.choice([(), rnd.choice(all_sets(len(deal)))])
            found = least(deal, dial, done)
            self.assertIs(True, shows_least(deal, dial, found, list(done)[::-1]))
            again = type(found)(*loosened(found.parts))
            self.assertIs(True, shows_least(deal=deal, dial=dial, value=again, done=done))
            self.assertIs(False, shows_least(deal, dial, Never(found.fence) if found else Least(0, found.sets, 0, ()), done))

    def test_any_row_that_is_good_at_the_number(self):
        rnd = random.Random(473)
        for deal in random_deals(474, 40, 4):
            dial = random_dial(rnd, deal.swap.strangers)
            found = least(deal, dial)
            if found:
                for row in itertools.permutations(range(len(deal))):
                    for pinch in range(len(row) + 1):
                        parts = (found.number, row, pinch, found.fence)
                        self.assertIs(is_right_least(deal, dial, (), parts), shows_least(deal, dial, Least(*parts)))

    def test_bent_papers(self):
        rnd = random.Random(475)
        kinds = set()
        deals = [deal for deal in random_deals(476, 60, 4) if len(deal) > 1][:14]
        for deal in [LOOSE, Deal(CUP, Bounds.alike(2, 1, 1)), *deals]:
            dial = random_dial(rnd, deal.swap.strangers)
            done = rnd.choice([(), (0,)])
            found = least(deal, dial, done)
            kinds.add(type(found))
            sets = plain_closure(list(plain_needs(deal, (dial,))), len(deal), done)
            for parts in bent(found.parts):
                if isinstance(parts, tuple) and len(parts) == len(found.parts):
                    right = is_right_least(deal, dial, done, parts) if found else are_just(parts[0], sets)
                    self.assertIs(right, shows_least(deal, dial, type(found)(*parts), done), parts)
        self.assertEqual({Least, Never}, kinds)

    def test_numbers_too_great_and_too_small(self):
        self.assertIs(True, shows_least(LOOSE, TRUST, Least(2, [0, 1], 1, [[]])))
        self.assertIs(True, shows_least(LOOSE, TRUST, Least(2, [1, 0], 1, [[]])))
        for number, pinch, fence in [(3, 1, [[]]), (1, 1, [[]]), (3, 1, [[], [0], [0, 1]]), (3, 1, [[], [0], [1], [0, 1]]), (2, 0, [[]]),
                                     (2, 2, [[]]), (2, 1, []), (2, 1, [[], [0]]), (-2, 1, [[]]), (0, 0, [])]:
            self.assertIs(False, shows_least(LOOSE, TRUST, Least(number, [0, 1], pinch, fence)))

    def test_a_never_where_there_is_a_number(self):
        self.assertIs(False, shows_least(LOOSE, TRUST, Never([(), (0,), (1,), (0, 1)])))
        self.assertIs(False, shows_least(LOOSE, TRUST, Never([(), (0,), (1,)])))
        self.assertIs(False, shows_least(LOOSE, TRUST, Never([])))
        never = Deal(CUP, Bounds.alike(2, 9, 9), [(0, 1)])
        self.assertIs(True, shows_least(never, TRUST, Never([]), [1]))
        self.assertIs(False, shows_least(never, TRUST, Never([[1]]), [1]))

    def test_sets_out_of_order_or_told_twice(self):
        # Nothing but the full set is barred.
        swap = Swap.read("a b | b a 1 1 | b a 1 1")
        deal = Deal(swap, Bounds([0, 1], [0, None]))
        sets = [(), (0,), (1,)]
        self.assertEqual(Never(sets), least(deal, Dial({}, {})))
        for told in itertools.product([(), (0,), (1,), (0, 1)], repeat=3):
            self.assertIs(list(told) == sets, shows_least(deal, Dial({}, {}), Never(told)))
        for told in ([*sets, (1,)], [*sets, (0, 1)], [(), (0,), (1,), ()], [(), (0,), [True]], [(), [Ratio(0)], (1,)], [(), "0", (1,)]):
            self.assertIs(False, shows_least(deal, Dial({}, {}), Never(told)))

    def test_sets_that_are_allowed_at_lesser_numbers_but_not_reached(self):
        swap = Swap.read("a b | a b 2 2 | b a 2 2 | a b 1 1")
        deal, dial = Deal(swap, Bounds.alike(2, None, None)), Dial.all_trust(swap)
        self.check_same((Ratio(1), (2, 1, 0), 1, ((),)), least(deal, dial).parts)
        self.check_same(Ratio(0), dial.allowed_from(deal, (0, 1)))
        self.assertIs(True, shows_least(deal, dial, Least(1, (2, 1, 0), 1, [()])))
        self.assertIs(False, shows_least(deal, dial, Least(1, (2, 1, 0), 1, [(), (0, 1)])))
        swap = Swap.read("a b | a b 3 1 | a b 0 0")
        deal, dial = Deal(swap, Bounds.alike(2, None, None)), Dial({}, {"a": 1})
        self.check_same((Ratio(3), (0, 1), 0, ()), least(deal, dial).parts)
        self.assertIs(False, shows_least(deal, dial, Least(3, (0, 1), 0, [(0,)])))

    def test_numbers_that_are_none(self):
        deal = Deal(CUP, Bounds.alike(2, 1, 1))
        self.assertIs(True, shows_least(deal, TRUST, Never([()])))
        for sets in ([(), (2,)], [(), (7,)], [(), (-1,)], [(), (0, 2)], [(5,)], [(), ()], [(), (10 ** 30,)]):
            self.assertIs(False, shows_least(deal, TRUST, Never(sets)))

    def test_no_size_is_refused(self):
        swap = Swap(CUP.strangers, CUP.hands * 20)
        deal = Deal(swap, Bounds.alike(2, None, None), [(number, number + 1) for number in range(39)])
        found = Least(2, list(range(40)), 1, [()])
        self.assertIs(True, shows_least(deal, Dial.all_trust(swap), found))
        self.assertIs(False, shows_least(deal, Dial.all_trust(swap), Least(1, list(range(40)), 1, [()])))
        self.assertIs(False, shows_least(deal, Dial.all_trust(swap), Least(2, list(range(40)), 1, [])))
        begun = tuple(range(20))
        self.assertIs(True, shows_least(deal, Dial({}, {}), Least(0, list(range(20, 40)), 0, []), begun))

    def test_a_class_below_is_none(self):
        class Better(Least):
            pass

        self.assertIs(False, shows_least(LOOSE, TRUST, Better(2, (0, 1), 1, [()])))


class FrontTest(Case):
    def test_wrong_values(self):
        strange = Dial({"zed": 1}, {"cay": 1})
        self.check_each_raises(BadDeal("deal"), NO_DEALS, lambda value: shows_front(value, None, None, None))
        self.check_each_raises(BadDial("one"), NO_DIALS, lambda value: shows_front(LOOSE, value, None, None))
        self.check_each_raises(BadDial("other"), NO_DIALS, lambda value: shows_front(LOOSE, strange, value, None))
        self.check_raises(BadDial("other"), shows_front, deal=LOOSE, one=strange, other=strange, value=None)
        self.check_raises(NoStranger("cay"), shows_front, LOOSE, strange, Dial({"abe": 1}, {}), None)
        self.check_raises(NoStranger("abe"), shows_front, LOOSE, TRUST, Dial({"abe": 1}, {"bob": 1}), None)
        for value in [*NO_PAPERS, Front((), (), ()), Front((), (), ((),)), Front((), (), (((), (0,), (1,)),))]:
            self.assertIs(False, shows_front(LOOSE, TRUST, PLEDGE, value))

    def test_right_papers(self):
        rnd = random.Random(481)
        for deal in random_deals(482, 100, 6):
            one, other = apart(rnd, deal.swap.strangers)
            found = front(deal, one, other)
            self.assertIs(True, shows_front(deal, one, other, found))
            again = type(found)(*loosened(found.parts))
            self.assertIs(True, shows_front(deal=deal, one=one, other=other, value=again))

    def test_bent_papers(self):
        rnd = random.Random(483)
        kinds = set()
        rope = Swap.read("ann bob | ann bob 3 9 | bob ann 1 9")
        deals = [Deal(rope, Bounds.zero(2)), *[deal for deal in random_deals(484, 60, 3) if len(deal) > 1][:9]]
        for place, deal in enumerate(deals):
            one, other = apart(rnd, deal.swap.strangers) if place else (Dial.all_trust(rope), Dial.all_pledge(rope))
            found = front(deal, one, other)
            kinds.add(len(found.points) if found else None)
            sets = plain_closure(list(plain_needs(deal, (one, other))), len(deal))
            for parts in bent(found.parts):
                if isinstance(parts, tuple) and len(parts) == len(found.parts):
                    right = is_right_front(deal, one, other, parts) if found else are_just(parts[0], sets)
                    self.assertIs(right, shows_front(deal, one, other, type(found)(*parts)), parts)
        self.assertTrue({None, 1, 2} <= kinds, kinds)

    def test_a_point_too_few_or_too_many(self):
        rope = Swap.read("ann bob | ann bob 3 9 | bob ann 1 9")
        deal, one, other = Deal(rope, Bounds.zero(2)), Dial.all_trust(rope), Dial.all_pledge(rope)
        self.assertIs(True, shows_front(deal, one, other, Front([(1, 3), (3, 1)], [(1, 0), (0, 1)], [[()], [()], [()]])))
        for points, rows in [([(1, 3)], [(1, 0)]), ([(3, 1)], [(0, 1)]), ([(1, 3), (2, 2), (3, 1)], [(1, 0), (0, 1), (0, 1)]),
                             ([(3, 1), (1, 3)], [(0, 1), (1, 0)]), ([(1, 3), (3, 3), (3, 1)], [(1, 0), (0, 1), (0, 1)]),
                             ([(1, 3), (1, 3), (3, 1)], [(1, 0), (1, 0), (0, 1)]), ([(1, 3), (2, 3), (3, 1)], [(1, 0), (1, 0), (0, 1)]),
                             ([(1, 3), (3, 2), (3, 1)], [(1, 0), (0, 1), (0, 1)]), ([(1, 4), (3, 1)], [(1, 0), (0, 1)])]:
            self.assertIs(False, shows_front(deal, one, other, Front(points, rows, [[()]] * (len(points) + 1))))
        self.assertIs(False, shows_front(deal, one, other, Never([()])))

    def test_a_front_without_points(self):
        deal = Deal(CUP, Bounds.alike(2, 1, 1))
        self.assertIs(True, shows_front(deal, TRUST, Dial({}, {}), Never([()])))
        self.assertIs(False, shows_front(deal, TRUST, Dial({}, {}), Front([], [], [[()]])))

    def test_no_size_is_refused(self):
        swap = Swap(CUP.strangers, CUP.hands * 20)
        deal = Deal(swap, Bounds.alike(2, None, None), [(number, number + 1) for number in range(39)])
        most = [[tuple(range(number)) for number in range(39)]]
        paper = Front([(2, 2)], [list(range(40))], [[()], *most])
        self.assertIs(True, shows_front(deal, Dial.all_trust(swap), Dial({}, {"ann": 1}), Front([(2, 0)], [list(range(40))], [[()], []])))
        self.assertIs(False, shows_front(deal, Dial.all_trust(swap), Dial({}, {"ann": 1}), paper))


class PatienceTest(Case):
    def test_wrong_values(self):
        self.check_each_raises(BadDeal("deal"), NO_DEALS, lambda value: shows_patience(value, None))
        losing = Swap.read("a b c | a b 1 5 | b c 4 1 | a c 1 0")
        self.check_raises(Loser("a"), shows_patience, deal=Deal(losing, Bounds.zero(3)), value=None)
        for value in [*NO_PAPERS, least(LOOSE, TRUST)]:
            self.assertIs(False, shows_patience(Deal(CUP, Bounds.alike(2, 2, 0)), value))

    def test_right_papers(self):
        rnd = random.Random(491)
        for _ in range(150):
            swap = random_swap(rnd, rnd.choice([2, 3]), rnd.randrange(6), gainful=True)
            if swap.is_gainful:
                deal = Deal(swap, Bounds.alike(len(swap.strangers), rnd.randrange(6), 0))
                found = patience(deal)
                self.assertIs(True, shows_patience(deal, found))
                self.assertIs(False, shows_patience(deal, found.factor if found else Patience(0, found)))
        none = Deal(NO_HANDS, Bounds.zero(2))
        self.assertIs(True, shows_patience(none, Patience(0, Least(0, [], 0, []))))

    def test_bent_papers(self):
        deal = Deal(CUP, Bounds.alike(2, 2, 0))
        found = patience(deal)
        self.assertIs(True, shows_patience(deal=deal, value=Patience(Ratio(2, 3), Least(2, [0, 1], 1, [[]]))))
        for number in (0, 2, Ratio(1, 2), None, True, "2/3", 2.0 / 3, (Ratio(2, 3),), Ratio(-2, 3)):
            self.assertIs(False, shows_patience(deal, Patience(number, found.factor)))
        for factor in (None, 2, found.factor.parts, Never([()]), found, Least(1, [0, 1], 1, [[]]), Least(2, [0, 1], 0, [[]]),
                       Paper("least", *found.factor.parts)):
            self.assertIs(False, shows_patience(deal, Patience(Ratio(2, 3), factor)))
        for parts in bent(found.factor.parts):
            if isinstance(parts, tuple) and len(parts) == 4:
                right = is_right_least(deal, Dial.by_weeks(CUP), (), parts) and parts[0] == 2
                self.assertIs(right, shows_patience(deal, Patience(Ratio(2, 3), Least(*parts))))

    def test_never(self):
        deal = Deal(CUP, Bounds.zero(2))
        self.assertIs(True, shows_patience(deal, Never([[]])))
        self.assertIs(False, shows_patience(deal, Never([])))
        self.assertIs(False, shows_patience(Deal(CUP, Bounds.alike(2, 2, 0)), Never([[]])))


if __name__ == "__main__":
    unittest.main()
