"""All examples of the document, in their order, with the names that earlier ones made."""

import ast
import importlib
import pathlib
import unittest

from lastgiver.errors import LastError

from support import Case

FOLDER = pathlib.Path(__file__).resolve().parent.parent / "lastgiver"
# By the words of point 24 bob would leave, and by the desk's own example the plan of the same book is stuck, so
# that not all can be done behind the pledge that fell; the example is as told for the book ahead of this deed.
OTHERWISE = {"[plan(Book(Deal(cup, Bounds((2, 0), (0, 2))))).row, can_end(book)]": "[(0, 1), False]"}
EXAMPLES = r'''
swap = Swap.read("ann bob | ann bob 2 3 | bob ann 2 3")
deal = Deal(swap, Bounds.alike(2, 1, 1))
grain = Deal(swap, Bounds((Ratio(1, 10), 0), (0, Ratio(1, 10))))
>>> [Ratio(4, -6), Ratio(1, 2) + 1, Ratio(3).over(2), Ratio(1, 3).compared(Ratio(1, 2)), added([1, Ratio(1, 2)]), Ratio(2) == 2, str(Ratio(0, 5))]
[-2/3, 3/2, 3/2, -1, 3/2, True, '0']
>>> [fixed([1, {"b": [2], "a": None}]), bool(Paper("note", [1])), bool(Denial("note")), Paper("note", [1]) == Paper("note", (1,)), Paper("note", 1) == Denial("note", 1)]
[(1, (('a', None), ('b', (2,)))), True, False, True, False]
>>> cup = Swap(("ann", "bob"), [HandOver("ann", "bob", 2, 3), HandOver("bob", "ann", 2, 3)])
>>> [str(cup), cup.nets, cup[1].giver, "bob" in cup, cup.is_gainful, cup.is_even, str(-cup)]
['ann bob | ann bob 2 3 | bob ann 2 3', (1, 1), 'bob', True, True, False, 'ann bob | bob ann 3 2 | ann bob 3 2']
>>> Swap.read("ann bob | ann ann 2 3")
raises BadText(0, 4)
>>> [sums(cup, [0]), list(along(cup, (1, 0))), rest(cup, [1]), gave(cup, [1, 0], "ann"), took(cup, [1, 0], "ann"), list(done_sets(cup))]
[(-2, 3), [(0, 0), (3, -2), (1, 1)], (0,), 2, 3, [(), (0,), (1,), (0, 1)]]
>>> kinds = Kinds(cup + cup)
>>> [kinds.numbers, kinds.sizes, kinds.orders, kinds.counts_of([2, 0]), kinds.first_with((1, 1)), kinds.sums_with((2, 0)), kinds.sets_with((1, 1))]
[((0, 2), (1, 3)), (2, 2), 4, (2, 0), (0, 1), (-4, 6), 4]
>>> four = Swap(("a", "b", "c", "d"), [HandOver("a", "c", 1, 1), HandOver("d", "b", 2, 4), HandOver("c", "a", 1, 2)])
>>> [circles(four), hands_among(four, ("a", "c")), (cup * Ratio(1, 2)).nets]
[(('a', 'c'), ('b', 'd')), (0, 2), (1/2, 1/2)]
>>> low = Bounds([2, None], [0, Ratio(3, 2)])
>>> [str(low), str(low.exchanged()), low.covers(Bounds.zero(2)), str(low | Bounds.alike(2, 1, 1)), str(low.with_trust(1, 0))]
['2 0 , wide 3/2', '0 2 , 3/2 wide', True, '2 1 , wide 3/2', '2 0 , 0 3/2']
>>> Bounds.read("2 0 , -1 0")
raises BadText(0, 3)
>>> leans = Leanings(4, [(1, 2), (0, 1), (1, 2)])
>>> [leans.pairs, leans.broken([2, 3]), leans.ahead_of(2), leans.free([0]), leans.turned().pairs]
[((0, 1), (1, 2)), ((1, 2),), (0, 1), (1, 3), ((1, 0), (2, 1))]
>>> Leanings(4, [(3, 1), (1, 2), (2, 3), (0, 1)])
raises Ring(1, (1, 2, 3))
>>> deal = Deal(cup, Bounds.alike(2, 1, 1))
>>> [str(deal.objections([0])[0]), str(deal.objections([0])[1]), deal.is_allowed([]), deal.moves([]), str(deal.against([], 1)[0])]
['ann drawn 1', 'bob leaves 1', True, (), 'ann leaves 1']
>>> leant = Deal(cup, Bounds([2, None], [0, 2]), [(0, 1)])
>>> [str(leant), leant.against([], 1), allowed_sets(leant)]
['ann bob | ann bob 2 3 | bob ann 2 3 ; 2 0 , wide 2 ; 0 1', (('leaning', 0),), [(), (0,), (0, 1)]]
>>> walk = RowWalk(deal, (1, 0))
>>> [walk.is_good, walk.first_bad.number, walk.moments[1].line, str(walk.needs), walk.lent, walk.above]
[False, 1, (3, -2), '0 2 , 2 0', (0, 2, 0), (0, 2, 0)]
>>> [str(exchanged(leant)), str(handed_back_deal(leant).bounds), str(rest_deal(leant, [0]))]
['ann bob | ann bob 2 3 | bob ann 2 3 ; 0 2 , 2 wide ; 1 0', '3 1 , wide 3', 'ann bob | bob ann 2 3 ; 0 0 , wide 2']
>>> handed_back_deal(Deal(portion(cup, [0]), Bounds.zero(2)))
raises Below('ann', 'drawn', 2)
>>> bold = Deal(cup, Bounds.alike(2, 2, 2))
>>> [reached(bold), firsts(bold), reached(Deal(cup, Bounds([2, 0], [0, 2]))), reached(deal), live(deal)]
[((), (0,), (1,), (0, 1)), (0, 1), ((), (0,), (0, 1)), ((),), ()]
>>> ring = Deal(Swap.ring("ann", "bob", "cat"), Bounds([1, 0, 0], [0, 1, 1]))
>>> [live(ring), firsts(ring), lasts(ring)]
[((), (0,), (0, 1), (0, 1, 2)), (0,), (2,)]
>>> [find_row(bold).row, find_row(deal).sets, bool(find_row(deal)), forced(deal) == find_row(deal)]
[(0, 1), ((),), False, True]
>>> [forced(bold), forced(ring), forced(Deal(cup, Bounds.alike(2, 2, 2), [(1, 0)])), find_row(Deal(Swap(["ann", "bob"], []), Bounds.zero(2))).row]
[(), ((0, 1), (0, 2), (1, 2)), ((1, 0),), ()]
>>> rows = Rows(bold)
>>> [rows.count, rows.at(1), rows.place_of([1, 0]), (0, 1) in rows, (0, 0) in rows, list(rows.in_order(5))]
[2, (1, 0), 1, True, False, [(0, 1), (1, 0)]]
>>> [rows.from_set(()), rows.from_set((1,)), bool(Rows(deal)), Rows(ring).count, Rows(ring).from_set((1, 2))]
[2, 1, False, 1, 0]
>>> mugs = Swap(["ann", "bob"], [HandOver("ann", "bob", 1, 1), HandOver("ann", "bob", 1, 1), HandOver("bob", "ann", 2, 2)])
>>> near = Deal(mugs, Bounds.alike(2, 1, 1))
>>> [find_by_kinds(near).row, count_by_kinds(near), find_by_kinds(Deal(mugs, Bounds.zero(2))).counts]
[(0, 2, 1), 2, ((0, 0),)]
>>> three, two = HandOver("ann", "bob", 3, 3), HandOver("bob", "ann", 2, 2)
>>> [two_sides(three, 2, two, 3, Bounds.alike(2, 2, 2)).row, two_sides(three, 2, two, 3, Bounds.alike(2, 1, 1)).place]
[(1, 0, 1, 0, 1), 0]
>>> bare = Deal(cup, Bounds.zero(2))
>>> [played(bare, (0, 1)).parts, leaver(bare, (0, 1)), list(tempted(bare, (0, 1)))]
[((0, 1), (True, True), ((0, 0), (-2, 3), (1, 1))), 'ann', [(1, 'bob', 2)]]
>>> some = played(Deal(cup, Bounds([0, 0], [3, 1])), (0, 1))
>>> [some.leaves, some.outcomes, some.handed, some.is_whole]
[(False, True), ((-2, 2), (-2, 2), (1, 1)), (0,), False]
>>> near = Deal(cup, Bounds([1, 0], [0, 2]))
>>> [played(near, (0, 1)).is_whole, played(near, (0, 1), careful=True).leaves]
[True, (True, False)]
>>> played(Deal(cup, Bounds([0, 0], [None, 2])), (0, 1), careful=True).outcomes
((None, 0), (1, 1), (1, 1))
>>> gifts = Deal.read("a b x | a b 1 5 | x b 1 1 | a b 2 2 ; 0 2 , 0 0 , 0 0")
>>> [played(gifts, (0, 1, 2)).moment, played(gifts.with_bounds(Bounds([0, 0, 0], [2, 0, 1])), (0, 1, 2)).moment]
[1, 0]
>>> [played_groups(bare, [(1, 0)]).parts, played_groups(bare, [[0], [1]]).leavers]
[(((0, 1),), (None,), ((1, 1), (1, 1))), ('ann', 'bob')]
>>> [str(weekly(bare, Ratio(2, 3)).bounds), forever(cup, Ratio(2, 3))]
['0 2 , 0 2', (3, 3)]
>>> free = Swap.read("ann bob | ann bob 0 1 | bob ann 0 1 | ann bob 1/2 3 | bob ann 1/2 3")
>>> two = season(free, (0, 1, 2, 3), Ratio(1, 2), 2)
>>> [two.leaves, two.outcomes[0][0], two.outcomes[1]]
[((False, False, False, False), (False, False, True, True)), (4, 4), ((1, 1), (1, 1), (1, 1), (1/2, 4), (7/2, 7/2))]
>>> [str(unrolled(cup, (1, 0), Ratio(1, 2), 2)[0]), unrolled(cup, (1, 0), Ratio(1, 2), 2)[1]]
['ann bob | ann bob 2 3 | bob ann 2 3 | ann bob 1 3/2 | bob ann 1 3/2', (1, 0, 3, 2)]
>>> plates, ring, gift = Swap.read("ann bob | ann bob 2 3 | bob ann 2 3"), Swap.read("a b c | a b 1 2 | b c 1 2 | c a 1 2"), Swap.read("ann bob | ann bob 2 3")
>>> [off(plates)[0], rank(plates).number, rank(ring).kept, rank(gift).number]
[(-5/2, 5/2), 1, (0, 1), 0]
>>> [str(enough_bounds(plates)), str(enough_bounds(ring)), str(enough_bounds(gift)), str(from_here(ring, (0,)))]
['2 2 , 2 2', '1 1 , 1 1 , 1 1', '2 2 , 0 0', '1 0 , 0 1 , 1 1']
>>> [chest(ring), chest(ring, (0,))]
[(2, 4), (2, 3)]
>>> [spared(plates, (0, 1), "ann"), bound_to(plates, (0, 1), "ann"), begun_at((2, 0, 1), 2)]
[(1, 0), (0, 1), (1, 2, 0)]
>>> loads = Swap.read("ann bob | ann bob 1 1 | ann bob 1 1 | bob ann 2 2")
>>> shows_enough(loads, Chain(rank(loads), (2, 1, 0), [[Ratio(2, 3)] * 3, [Ratio(1, 3), Ratio(2, 3)], [0]]))
True
>>> [lane(Deal(loads, Bounds.alike(2, 1, 1))), enough_width(loads), filled(Deal(loads, Bounds.alike(2, 1, 1))).row]
[(-1, 1), 2, (0, 2, 1)]
>>> [str(hardest(2, 1)), filled(Deal(hardest(2, 3), Bounds([0, 4], [4, 0]))).row, filled(Deal(hardest(2, 3), Bounds([0, 3], [3, 0]))) == Halted((0, 2))]
['one other | other one 1 1 | other one 1 1 | one other 2 2', (0, 2, 1, 3, 4), True]
>>> cup = Swap(["ann", "bob"], [HandOver("ann", "bob", 2, 3), HandOver("bob", "ann", 2, 3)])
>>> uneven = Dial.as_told(Deal(cup, Bounds((4, 1), (0, 1))))
>>> [str(uneven), uneven.need(cup, (0,)) == (2, "bob", "leaves"), uneven.need(cup, (1,))]
['trust ann 4 bob 1 | pledge ann 0 bob 1', True, (None, 'ann', 'leaves')]
>>> loose = Deal(cup, Bounds((0, 0), (2, 2)))
>>> [least(loose, Dial.all_trust(cup)) == Least(2, (0, 1), 1, [()]), least(loose, Dial({"ann": 2, "bob": 1}, {})) == Least(1, (0, 1), 1, [()])]
[True, True]
>>> [least(loose, Dial.all_trust(cup), (0,)) == Least(2, (1,), 0, []), str(least(loose, uneven).number)]
[True, '2']
>>> least(Deal(cup, Bounds((0, 0), (1, 1))), Dial.all_trust(cup)) == Never([()])
True
>>> rope = Swap(["ann", "bob"], [HandOver("ann", "bob", 3, 9), HandOver("bob", "ann", 1, 9)])
>>> found = front(Deal(rope, Bounds.zero(2)), Dial.all_trust(rope), Dial.all_pledge(rope))
>>> [found == Front([(1, 3), (3, 1)], [(1, 0), (0, 1)], [[()], [()], [()]]), found.does(2, 2), found.cheapest(1, 2) == (5, 1)]
[True, False, True]
>>> front(loose, Dial.one_trust("ann"), Dial.one_trust("bob")) == Front([(0, 2), (2, 0)], [(1, 0), (0, 1)], [[], [()], []])
True
>>> [str(cut(swap, (2, 1))), whole_of((2, 1)), pieced(deal, 1).reached, pieced(deal, 2).order]
['ann bob | ann bob 1 3/2 | ann bob 1 3/2 | bob ann 2 3', (0, 0, 1), ((0, 0),), (0, 1, 0, 1)]
>>> tried = list(fitting(deal, 4))
>>> [bool(tried[0][1]), bool(tried[1][1]), bool(tried[2][1]), bool(tried[3][1]), least_pieces(deal, 4).denials, enough_pieces(deal).pieces, enough_pieces(grain).parts]
[False, True, True, True, (((0, 0),),), 3, ('ann', 'leaves')]
>>> fewest_pieces(deal, 2).parts
((1, 2), (1, 0, 1), (((1, 1), ((0, 0),)),))
>>> [openings(grain), closings(grain), bool(fine(grain)), sources(swap)]
[(0, 1), (1, 0), True, (('ann', 'bob'),)]
>>> fine(Deal(swap, Bounds.alike(2, 0, 1))).parts
((), ((0, 'ann', 'drawn'), (1, 'bob', 'drawn')))
>>> first, last = [(0, Ratio(1, 20)), (1, Ratio(1, 80))], [(0, Ratio(1, 80)), (1, Ratio(1, 20))]
>>> [shows_fine(grain, Fine(first, last, 320)), shows_fine(grain, Fine(first, last, 240))]
[True, False]
>>> both = Deal(Swap.read("ann bob | ann bob 1 2 | bob ann 1 2 | ann bob 1 2"), Bounds([0, 0], [1, 0]))
>>> way = Way(both, [[1, 0], [2]])
>>> [way.groups, way.sets, way.largest, len(way), way.as_row()]
[((0, 1), (2,)), ((), (0, 1), (0, 1, 2)), 2, 2, None]
>>> [way.merged(0).groups, len(Way(both, [[0, 1, 2]]).refined())]
[((0, 1, 2),), 2]
>>> Way(both, [[0], [1, 2]])
raises Objects(name='ann', place=1)
>>> [count_ways(both), count_ways(both, 2), count_ways(both, 1)]
[3, 2, 0]
>>> bare = Deal(Swap.ring("ann", "bob", "cay"), Bounds.zero(3))
>>> [classes(bare), len(never_behind(bare)), classes(both), never_behind(both)]
[((0, 1, 2),), 6, ((0,), (1,), (2,)), ((1, 0), (1, 2))]
>>> lines = parting(bare, 0, 1).lines
>>> [len(lines), lines[0][0], lines[0][1][:2], lines[2][0], lines[2][1][:2], str(lines[2][1][2])]
[4, (0,), ('ann', 'drawn'), (0, 2), ('bob', 'leaves'), '1']
>>> [parting(both, 0, 1).done, behind(both, 0, 1).done, bool(behind(both, 1, 0))]
[(1, 2), (1, 2), False]
>>> classes(Deal(Swap.read("ann bob | ann bob 2 3"), Bounds.zero(2)))
raises NoWay(done=(), name='ann')
>>> most_groups(both).ranks
(((), 0), ((0, 1), 1), ((1, 2), 1), ((0, 1, 2), 2))
>>> [least_group(both).number, least_group(both).fence, least_group(bare).number, fewest_groups(both, 3).groups]
[2, ((),), 3, ((0, 1, 2),)]
>>> none = Deal(Swap(["ann", "bob"], []), Bounds.zero(2))
>>> [classes(none), most_groups(none).number, least_group(none).fence, fewest_groups(none, 1).ranks, count_ways(none)]
[(), 0, (), (((), 0),), 1]
>>> [shows_parting(both, 0, 1, Parted([1, 2])), shows_parting(both, 0, 1, Parted([0, 1]))]
[True, False]
>>> [shows_narrow(both, Narrow(2, [[0, 1], [2]], [[]])), shows_narrow(both, Narrow(3, [[0, 1, 2]], [[]]))]
[True, False]
>>> three, kin = Swap.ring("ann", "bob", "cay"), Keeper("kin", 3, "cay", "ann", "bob")
>>> hands = Keepers(three, [1, 1, 1], kin, Keeper("lo", 1, "ann"))
>>> [kin.relied_on_by, hands.reasons("lo", [1, 0]), hands.reasons("kin", [0, 1, 2])]
[('ann', 'bob', 'cay'), (('relies', 'bob'), ('relies', 'cay'), ('purse', 1)), ()]
>>> bare, eased = Deal(three, Bounds.zero(3)), Deal(three, Bounds([1, 0, 0], [0, 1, 0]))
>>> less = hands.placed(kin.with_purse(2))
>>> [held_way(bare, less).sets, held_way(eased, less).strokes, count_held(eased, hands)]
[((),), (((0,), None), ((1, 2), 'kin')), 2]
>>> [least_purse(bare, less, "kin").number, least_purse(eased, hands, "kin").fence]
[3, ((), (0,))]
>>> reliers(bare, hands, "kin").barred[0]
(('ann', 'bob'), ((),))
>>> bear = Deal(cup, Bounds.alike(2, 2, 0))
>>> lay = laid(bear, "kin", {"bob": 2})
>>> [str(lay.swap), find_row(lay).row]
['ann bob kin | ann bob 2 3 | bob ann 2 3 | bob kin 2 0 | kin bob 0 2', (2, 0, 1, 3)]
>>> [span(bear, (0, 1), "bob"), least_laid(bear, "bob").parts]
[2, (2, (0, 1), ((0, ((),)),))]
>>> list(hand_moments(eased, hands, held_way(eased, less)))
[('over', 0, 0), ('in', 1, 1), ('in', 2, 2), ('out', 1, 1), ('out', 2, 0)]
>>> best = most_chosen(Deal(cup, Bounds([2, 2], [2, 1])), [0])
>>> [best.numbers, best.row, best.others[0].parts]
[(0,), (), ((0, 1), (0,), ())]
>>> book = Book(Deal(cup, Bounds((2, 0), (0, 2))))
>>> book.do(0)
>>> [book.sums_now, book.hopes, book.waiting, str(book.left())]
[(-2, 3), (1, 1), (1,), 'ann bob | bob ann 2 3 ; 0 0 , 3 2']
>>> book.set_pledge("bob", 1)
>>> [len(book.objecting), str(book.objecting[0])]
[1, 'bob leaves 1']
>>> book.do(1)
raises Objected('bob', 1)
>>> [plan(Book(Deal(cup, Bounds((2, 0), (0, 2))))).row, can_end(book)]
[(0, 1), True]
>>> desk = Desk()
>>> desk.told("put cup swap ann bob | ann bob 2 3 | bob ann 2 3", "put low bounds 2 0 , 0 2", "deal d cup low", "row d", "walk d 1 0", "book b d", "tell b do 0", "tell b pledge bob 1", "objecting b", "plan b")
('ok', 'ok', 'ok', '0 1', '1', '0 1', '1', '1', 'bob leaves 1', 'stuck')
>>> [desk.undo(), desk("plan b"), list(desk)]
['tell b pledge bob 1', '1', ['b', 'cup', 'd', 'low']]
>>> desk("least d cup")
raises BadText(0, 2)
>>> desk.told("drop low", "tell b do 7")
raises BadLine(1, NoHand(7))
'''


def all_names():
    """All names of the package; an example names none of those that stand in two files."""
    found = {}
    for path in sorted(FOLDER.glob("*.py")):
        if path.stem != "__init__":
            module = importlib.import_module(f"lastgiver.{path.stem}")
            found.update({name: value for name, value in vars(module).items() if not name.startswith("_")})
    return found


def examples():
    """Pairs of what is told and the answer, None where there is none."""
    told = []
    for row in EXAMPLES.strip().split("\n"):
        if row.startswith(">>> "):
            told.append([row[4:], None])
        elif told and told[-1][0] is not None and told[-1][1] is None and not row.partition(" = ")[0].isidentifier():
            told[-1][1] = row
        else:
            told.append([row, None])
    return told


class DocumentTest(Case):
    def check_error(self, answer, source, names):
        """The example raises this error, with the fields that are told."""
        call = ast.parse(answer.removeprefix("raises ")).body[0].value
        with self.assertRaises(LastError) as caught:
            eval(source, names)
        found = vars(caught.exception)
        self.assertEqual(call.func.id, type(caught.exception).__name__)
        for value, told in zip(found.values(), call.args):
            if isinstance(told, ast.Call):
                self.assertEqual(told.func.id, type(value).__name__)
                self.assertEqual([ast.literal_eval(one) for one in told.args], list(vars(value).values()))
            else:
                self.assertEqual(ast.literal_eval(told), value)
        for told in call.keywords:
            self.assertEqual(ast.literal_eval(told.value), found[told.arg])

    def test_all_in_order(self):
        names = all_names()
        answers = 0
        for source, answer in examples():
            answer = OTHERWISE.get(source, answer)
            with self.subTest(source):
                answers += answer is not None
                if answer is None:
                    exec(source, names)
                elif answer.startswith("raises "):
                    self.check_error(answer, source, names)
                else:
                    self.assertEqual(answer, repr(eval(source, names)))
        self.assertEqual(78, answers)

    def test_the_example_that_is_told_otherwise(self):
        names = all_names()
        for row in ("cup = Swap.read('ann bob | ann bob 2 3 | bob ann 2 3')", "book = Book(Deal(cup, Bounds((2, 0), (0, 2))))", "book.do(0)"):
            exec(row, names)
        (source, answer), = OTHERWISE.items()
        self.assertEqual("[(0, 1), True]", repr(eval(source, names)))
        exec("book.set_pledge('bob', 1)", names)
        self.assertEqual(answer, repr(eval(source, names)))


if __name__ == "__main__":
    unittest.main()
