"""The names of the interface: in which file each stands, and what its parameters are called."""

import importlib
import inspect
import unittest

FUNCTIONS = {
    "checks": "is_integer(value) is_within(value,least,most) is_name(value)",
    "ratios": "is_ratio(value) added(ratios) least_of(ratios) greatest_of(ratios)",
    "papers": "fixed(value)",
    "sums": "done_set(swap,done) rest(swap,done) sums(swap,done) sum_of(swap,done,name) gave(swap,done,name) "
            "took(swap,done,name) along(swap,numbers) done_sets(swap)",
    "turned": "handed_back(swap) one_after(*swaps) portion(swap,done) renamed(swap,names) seated(swap,strangers) "
              "reordered(swap,order) scaled(swap,ratio) circles(swap) hands_among(swap,names)",
    "deals": "allowed_sets(deal)",
    "turned_deals": "exchanged(deal) handed_back_deal(deal) rest_deal(deal,done)",
    "reached": "reached(deal) live(deal) firsts(deal) lasts(deal)",
    "rows": "find_row(deal) forced(deal)",
    "kind_rows": "find_by_kinds(deal) count_by_kinds(deal)",
    "two_sides": "two_sides(one,many,other,more,bounds)",
    "check_rows": "shows_good(deal,value) shows_stuck(deal,value) shows_stuck_kinds(deal,value) "
                  "shows_sides(one,many,other,more,bounds,value) shows_gap(one,many,other,more,bounds,value)",
    "plays": "played(deal,row,careful=False) leaver(deal,row,careful=False) tempted(deal,row)",
    "group_plays": "played_groups(deal,groups,careful=False)",
    "weeks": "weekly(deal,q) forever(swap,q)",
    "seasons": "season(swap,row,q,weeks) unrolled(swap,row,q,weeks)",
    "check_plays": "shows_played(deal,value,careful=False) shows_played_groups(deal,value,careful=False) "
                   "shows_season(swap,q,weeks,value)",
    "roads": "off(swap) rank(swap) enough_bounds(swap) from_here(swap,done) chest(swap,done=())",
    "chains": "enough(swap) finish(swap,done)",
    "starts": "begun_at(row,start) spared(swap,row,name) bound_to(swap,row,name)",
    "check_enough": "shows_rank(swap,value) shows_enough(swap,value) shows_filled(deal,value)",
    "least": "least(deal,dial,done=())",
    "fronts": "front(deal,one,other)",
    "patience": "patience(deal)",
    "check_least": "shows_least(deal,dial,value,done=()) shows_front(deal,one,other,value) shows_patience(deal,value)",
    "pieces": "cut(swap,counts) cut_deal(deal,counts) whole_of(counts) pieced(deal,counts) stretched(paper,times)",
    "fitting": "fitting(deal,most) least_pieces(deal,most) fewest_pieces(deal,extra) enough_pieces(deal)",
    "fine": "openings(deal) closings(deal) fine(deal) sources(swap)",
    "check_pieces": "shows_pieced(deal,value) shows_least_pieces(deal,value) shows_fewest_pieces(deal,value) "
                    "shows_enough_pieces(deal,value) shows_fine(deal,value)",
    "ways": "count_ways(deal,largest=None)",
    "together": "parting(deal,e,f) behind(deal,e,f) classes(deal) never_behind(deal)",
    "groups": "most_groups(deal) least_group(deal) fewest_groups(deal,largest)",
    "check_groups": "shows_parting(deal,e,f,value) shows_behind(deal,e,f,value) shows_most(deal,value) "
                    "shows_narrow(deal,value) shows_few(deal,largest,value)",
    "held_ways": "held_way(deal,keepers) count_held(deal,keepers)",
    "purses": "least_purse(deal,keepers,name) reliers(deal,keepers,name)",
    "laid": "laid(deal,keeper,amounts) shifted(deal,amounts) span(deal,row,name) least_laid(deal,name)",
    "check_hands": "shows_held(deal,keepers,value) shows_least_purse(deal,keepers,name,value) "
                   "shows_reliers(deal,keepers,name,value) shows_least_laid(deal,name,value) hand_moments(deal,keepers,held)",
    "choices": "choices(deal)",
    "doable": "ended(choice,done=()) doable(deal,done=()) most_chosen(deal,done=()) brings_most(deal,done=()) gainful_most(deal) "
              "choice_front(deal,done=())",
    "changed": "renaming(deal,names) seating(deal,strangers) ordering(deal,order) scaling(deal,ratio) adding(deal,name) "
               "idling(deal,giver,taker) capping(deal)",
    "check_choices": "shows_ended(deal,value) shows_stuck_choice(deal,value) shows_no_choice(deal,value) shows_most(deal,done,value) "
                     "shows_brings_most(deal,done,value) shows_gainful_most(deal,value) shows_choice_front(deal,done,value)",
    "stories": "replay(deal,story) merged(one,other)",
    "plans": "plan(book) shows_plan(book,value) can_end(book) enough_here(book)",
    "reader": "form_of(value) read_line(line,forms)",
    "even": "lane(deal) grain(swap) enough_width(swap) filled(deal) hardest(p,q)",
}
CLASSES = {
    ("ratios", "Ratio"): "__init__(top,bottom=1) over(other) compared(other) is_below(other) read(text) of(value) __add__ "
                         "__sub__ __mul__ __neg__ __abs__ __bool__ __eq__ __str__ __repr__ sign is_whole",
    ("papers", "Paper"): "__init__(word,*parts) __eq__ __bool__",
    ("papers", "Denial"): "__init__(word,*parts) __eq__ __bool__",
    ("swaps", "HandOver"): "__init__(giver,taker,cost,gain) returned() effect(name) read(text) __eq__ __str__",
    ("swaps", "Swap"): "__init__(strangers,hands) net(name) read(text) ring __len__ __iter__ __getitem__ __contains__ "
                       "__neg__ __add__ __mul__ __eq__ __str__ is_even is_gainful is_even_priced MOST_STRANGERS MOST_HANDS",
    ("kinds", "Kinds"): "__init__(swap) counts_of(done) first_with(counts) sums_with(counts) sets_with(counts) __len__ orders",
    ("bounds", "Bounds"): "__init__(trusts,pledges) alike(many,trust,pledge) zero(many) exchanged() with_trust(place,trust) "
                          "with_pledge(place,pledge) covers(other) read(text) __len__ __eq__ __or__ __str__",
    ("leanings", "Leanings"): "__init__(many,pairs) broken(done) free(done) ahead_of(number) turned() __len__ __iter__ __eq__",
    ("deals", "Objection"): "__init__(name,side,amount) __eq__ __str__",
    ("deals", "Deal"): "__init__(swap,bounds,leanings=()) is_allowed(done) objections(done) broken(done) against(done,number) "
                       "moves(done) with_bounds(bounds) read(text) __len__ __eq__ __str__",
    ("walked", "RowWalk"): "__init__(deal,row)",
    ("walked", "Moment"): "",
    ("rows", "Good"): "__init__(row)",
    ("rows", "Stuck"): "__init__(sets)",
    ("numbered", "Rows"): "__init__(deal) at(number) place_of(row) from_set(done) in_order(many) __bool__ __contains__ MOST",
    ("kind_rows", "StuckKinds"): "__init__(counts)",
    ("two_sides", "Sides"): "__init__(row)",
    ("two_sides", "Gap"): "__init__(place)",
    ("plays", "Played"): "__init__(row,leaves,outcomes) is_whole handed",
    ("group_plays", "PlayedGroups"): "__init__(groups,leavers,outcomes)",
    ("seasons", "Season"): "__init__(row,leaves,outcomes)",
    ("roads", "Rank"): "__init__(number,kept,pulls)",
    ("chains", "Chain"): "__init__(rank,row,weights)",
    ("even", "Filled"): "__init__(row)",
    ("even", "Outside"): "__init__(moment)",
    ("even", "Halted"): "__init__(row)",
    ("dials", "Dial"): "__init__(trust_weights,pledge_weights) all_trust(swap) all_pledge(swap) all_bounds(swap) one_trust(name) "
                       "one_pledge(name) as_told(deal) by_weeks(swap) exchanged() at(deal,x) need(swap,done) "
                       "allowed_from(deal,done) read(text) __eq__ __str__",
    ("least", "Least"): "__init__(number,row,pinch,fence)",
    ("least", "Never"): "__init__(sets)",
    ("fronts", "Front"): "__init__(points,rows,fences) does(x,y) cheapest(a,b)",
    ("patience", "Patience"): "__init__(number,factor)",
    ("pieces", "Pieced"): "__init__(counts,order)",
    ("pieces", "Unpieced"): "__init__(counts,reached)",
    ("fitting", "LeastPieces"): "__init__(pieces,order,denials)",
    ("fitting", "FewestPieces"): "__init__(counts,order,denials)",
    ("fitting", "EnoughPieces"): "__init__(pieces)",
    ("fitting", "NoPieces"): "__init__(most,denials)",
    ("fitting", "NoFewest"): "__init__(extra,denials)",
    ("fitting", "Tight"): "__init__(name,side)",
    ("fine", "Fine"): "__init__(opening,closing,pieces)",
    ("fine", "Unopened"): "__init__(opened,against)",
    ("fine", "Unclosed"): "__init__(closed,against)",
    ("ways", "Way"): "__init__(deal,groups) merged(at) refined() as_row() __len__ __eq__ __iter__ largest",
    ("together", "Parted"): "__init__(done)",
    ("together", "Together"): "__init__(lines)",
    ("groups", "Most"): "__init__(number,groups,ranks)",
    ("groups", "Narrow"): "__init__(number,groups,fence)",
    ("groups", "Few"): "__init__(number,groups,ranks)",
    ("keepers", "Keeper"): "__init__(name,purse,*relied_on_by) with_purse(purse) __contains__ __eq__",
    ("keepers", "Keepers"): "__init__(swap,worths,*keepers) placed(keeper) reasons(name,group) __eq__",
    ("held_ways", "Held"): "__init__(strokes)",
    ("held_ways", "NotHeld"): "__init__(sets)",
    ("purses", "LeastPurse"): "__init__(number,strokes,fence)",
    ("purses", "Reliers"): "__init__(least,barred)",
    ("purses", "NoPurse"): "__init__(sets)",
    ("laid", "LeastLaid"): "__init__(number,row,closed)",
    ("laid", "NeverLaid"): "__init__(closed)",
    ("choices", "Choice"): "__init__(deal,numbers) numbers_of(inners) read(deal,text) whole(deal) none(deal) __len__ __iter__ __contains__ "
                           "__eq__ __or__ __and__ __str__ brings is_gainful",
    ("doable", "Ended"): "__init__(numbers,done,row)",
    ("doable", "StuckChoice"): "__init__(numbers,done,sets)",
    ("doable", "Best"): "__init__(numbers,row,others)",
    ("doable", "ChoiceFront"): "__init__(points,others)",
    ("doable", "NoChoice"): "__init__(done,name,amount)",
    ("changed", "DealChange"): "done_after(done) row_after(row) row_before(row) line_after(line) __mul__",
    ("deeds", "Deed"): "read(text) __eq__ __str__",
    ("deeds", "Do"): "__init__(numbers) __eq__ __str__",
    ("deeds", "Leave"): "__init__(name) __eq__ __str__",
    ("deeds", "Break"): "__init__(number) __eq__ __str__",
    ("deeds", "SetTrust"): "__init__(name,trust) __eq__ __str__",
    ("deeds", "SetPledge"): "__init__(name,pledge) __eq__ __str__",
    ("books", "Book"): "__init__(deal) do(*numbers) leave(name) breaks(number) set_trust(name,trust) set_pledge(name,pledge) tell(deed) "
                       "undo() redo() left() twin() tried(work) __len__ __iter__ __eq__ sums_now hopes waiting objecting",
    ("desk", "Desk"): "told(*lines) undo() deed_lines() value_of(name) __call__(line) __contains__ __len__ __iter__ __eq__",
}


def told_parameters(function):
    """The parameters of a function, without the object's own."""
    names = str(inspect.signature(function)).replace(" ", "")
    for own in ("self", "cls"):
        names = names.replace(f"({own},", "(").replace(f"({own})", "()")
    return names


class InterfaceTest(unittest.TestCase):
    def test_functions(self):
        for file, told in FUNCTIONS.items():
            module = importlib.import_module(f"lastgiver.{file}")
            for text in told.split(" "):
                name = text.partition("(")[0]
                function = getattr(module, name)
                self.assertEqual(module.__name__, function.__module__)
                self.assertEqual(text, name + told_parameters(function))

    def test_classes(self):
        for (file, name), told in CLASSES.items():
            module = importlib.import_module(f"lastgiver.{file}")
            kind = getattr(module, name)
            self.assertEqual(module.__name__, kind.__module__)
            for text in told.split():
                method, stop, _ = text.partition("(")
                self.assertIn(method, vars(kind), (name, method))
                if stop:
                    self.assertEqual(text, method + told_parameters(getattr(kind, method)))

    def test_static_methods(self):
        for file, name, methods in (("choices", "Choice", "read whole none"), ("deeds", "Deed", "read"), ("swaps", "Swap", "ring"),
                                    ("bounds", "Bounds", "alike zero"), ("ratios", "Ratio", "of")):
            kind = getattr(importlib.import_module(f"lastgiver.{file}"), name)
            for method in methods.split():
                self.assertIsInstance(vars(kind)[method], staticmethod)

    def test_forms_stand_in_their_file(self):
        self.assertEqual(("swap", "bounds", "deal", "dial"), importlib.import_module("lastgiver.reader").FORMS)

    def test_errors_stand_in_their_own_file(self):
        module = importlib.import_module("lastgiver.errors")
        self.assertEqual({"lastgiver.errors"}, {kind.__module__ for kind in vars(module).values() if isinstance(kind, type)})

    def test_cost_and_gain_of_the_ring_are_told_by_name(self):
        module = importlib.import_module("lastgiver.swaps")
        told = inspect.signature(module.Swap.ring).parameters
        self.assertEqual([1, 2], [told["cost"].default, told["gain"].default])
        self.assertEqual({inspect.Parameter.KEYWORD_ONLY}, {told["cost"].kind, told["gain"].kind})


if __name__ == "__main__":
    unittest.main()
