"""Leanings and their rings."""

import itertools
import random
import unittest

from lastgiver.errors import BadDone, BadLeanings, BadNumber, NoHand, Ring, Twice
from lastgiver.leanings import Leanings

from support import NO_DONE, NO_LISTS, NO_NUMBERS, Case, all_sets, random_pairs

NO_PAIRS = [*NO_LISTS, [1], (None,), [[0]], [(0, 1, 2)], [(0, 1), []], ["01"], [{0: 1}], (0, 1), [(0, 1), 3]]
LEANS = Leanings(4, [(1, 2), (0, 1)])


def plain_ring(many, pairs):
    """The Ring of these pairs by trying all, or None."""
    for size in range(1, many + 1):
        rings = [row for row in itertools.permutations(range(many), size)
                 if all((row[k], row[(k + 1) % size]) in pairs for k in range(size))]
        if size == 1:
            found = rings
        else:
            found = found + rings
    if not found:
        return None
    least = min(row[0] for row in found)
    return Ring(least, min((len(row), row) for row in found if row[0] == least)[1])


class LeaningsTest(Case):
    def test_attributes(self):
        told = [[1, 2], (0, 1), (1, 2)]
        leans = Leanings(4, told)
        self.check_same([4, ((0, 1), (1, 2)), 2], [leans.many, leans.pairs, len(leans)])
        self.assertEqual([(0, 1), (1, 2)], list(leans))
        self.assertEqual(leans, Leanings(pairs=((0, 1), [1, 2]), many=4))
        told[0].append(3)
        told.append(None)
        self.assertEqual(((0, 1), (1, 2)), leans.pairs)

    def test_no_hand_over_and_40(self):
        self.assertEqual([(), 0, ()], [Leanings(0, []).pairs, len(Leanings(0, ())), Leanings(0, []).free([])])
        pairs = [(e, f) for e in range(40) for f in range(e + 1, 40)]
        most = Leanings(40, pairs[::-1] + pairs)
        self.assertEqual((tuple(pairs), tuple(range(39))), (most.pairs, most.ahead_of(39)))
        self.assertEqual(((0,), ()), (most.free([]), most.free(list(range(40)))))

    def test_wrong_values(self):
        for value in [*NO_NUMBERS, -1, 41]:
            self.check_raises(BadNumber("many"), Leanings, value, None)
        self.check_each_raises(BadLeanings("pairs"), NO_PAIRS, lambda value: Leanings(4, value))
        for value in [*NO_NUMBERS, -1, 4]:
            self.check_raises(NoHand(value), Leanings, 4, [(1, 1), (2, value), (-5, 9)])
            self.check_raises(NoHand(value), Leanings, 4, [[0, 1], [value, -7]])
        self.check_raises(NoHand(0), Leanings, 0, [(0, 0)])
        self.check_raises(BadLeanings("pairs"), Leanings, 4, [(9, 9), 3])

    def test_rings(self):
        for many, pairs, number, numbers in [
            (4, [(3, 1), (1, 2), (2, 3), (0, 1)], 1, (1, 2, 3)), (3, [(2, 2)], 2, (2,)), (3, [(1, 0), (0, 1)], 0, (0, 1)),
            (3, [(0, 1), (1, 0), (0, 0)], 0, (0,)), (5, [(0, 4), (4, 0), (0, 2), (2, 0), (0, 3)], 0, (0, 2)),
            (6, [(0, 2), (0, 1), (1, 5), (2, 4), (4, 0), (5, 0)], 0, (0, 1, 5)), (4, [(3, 2), (2, 3), (1, 1)], 1, (1,)),
            (5, [(0, 1), (1, 2), (2, 3), (3, 0), (2, 0)], 0, (0, 1, 2)), (3, [(0, 1), (1, 2), (2, 1)], 1, (1, 2)),
        ]:
            self.check_raises(Ring(number, numbers), Leanings, many, pairs)
        pairs = [(e, e + 1) for e in range(39)] + [(39, 0)]
        self.check_raises(Ring(0, tuple(range(40))), Leanings, 40, pairs)

    def test_rings_by_trying_all(self):
        rnd = random.Random(7)
        for _ in range(150):
            many = rnd.randrange(2, 6)
            pairs = [(rnd.randrange(many), rnd.randrange(many)) for _ in range(rnd.randrange(2 * many))]
            ring = plain_ring(many, pairs)
            if ring is None:
                self.assertEqual(tuple(sorted(set(pairs))), Leanings(many, pairs).pairs)
            else:
                self.check_raises(ring, Leanings, many, pairs)

    def test_equality(self):
        others = [Leanings(5, [(0, 1), (1, 2)]), Leanings(4, [(0, 1)]), Leanings(4, []), Leanings(4, [(0, 1), (2, 1)])]
        self.check_equality(lambda: Leanings(4, ((1, 2), (0, 1), (1, 2))), [*others, ((0, 1), (1, 2))])

    def test_wrong_done_sets_and_hand_overs(self):
        for work in (LEANS.broken, LEANS.free):
            self.check_each_raises(BadDone("done"), NO_DONE, work)
            self.check_raises(NoHand(4), work, [1, 1, 4])
            self.check_raises(Twice(1), work, [1, 1])
        for value in [*NO_NUMBERS, -1, 4]:
            self.check_raises(NoHand(value), LEANS.ahead_of, value)

    def test_broken_and_free(self):
        self.check_same([((1, 2),), (), (), ((0, 1),)], [LEANS.broken(done) for done in ([3, 2], (1, 0, 2), [], [1, 2])])
        self.check_same([(0, 3), (1, 3), (0, 3), (0, 1, 3)], [
            LEANS.free([]), LEANS.free(done=[0]), LEANS.free((2, 1)), Leanings(4, [(0, 2), (1, 2)]).free([2]),
        ])
        self.check_same(((1, 2),), LEANS.broken(done=(2, 3)))

    def test_broken_and_free_by_trying_all(self):
        rnd = random.Random(9)
        for _ in range(20):
            leans = Leanings(5, random_pairs(rnd, 5, rnd.randrange(6)))
            for done in all_sets(5):
                broken = tuple((e, f) for e, f in leans.pairs if f in done and e not in done)
                self.check_same(broken, leans.broken(done[::-1]))
                others = [number for number in range(5) if number not in done]
                free = [f for f in others if set(leans.broken((*done, f))) <= set(broken)]
                self.check_same(tuple(free), leans.free(done))

    def test_ahead_of(self):
        self.check_same([(), (0,), (0, 1), ()], [LEANS.ahead_of(number) for number in range(4)])
        self.check_same((0, 1, 3, 4), Leanings(5, [(4, 3), (3, 2), (1, 2), (0, 1)]).ahead_of(number=2))

    def test_turned(self):
        self.assertEqual(Leanings(4, [(2, 1), (1, 0)]), LEANS.turned())
        self.assertEqual(LEANS, LEANS.turned().turned())


if __name__ == "__main__":
    unittest.main()
