"""Deeds: what is refused, what they keep, and their texts."""

import unittest

from lastgiver.deeds import Break, Deed, Do, Leave, SetPledge, SetTrust
from lastgiver.errors import BadBook, BadText
from lastgiver.ratios import Ratio

from support import NO_AMOUNTS, NO_LISTS, NO_NAMES, NO_NUMBERS, ODD, Case

NO_BOUNDS = [value for value in NO_AMOUNTS if value is not None]
KINDS = [
    (lambda: Do([2, 0]), "do 0 2"), (lambda: Leave("ann"), "leave ann"), (lambda: Break(3), "break 3"),
    (lambda: SetTrust("ann", Ratio(3, 2)), "trust ann 3/2"), (lambda: SetPledge("bob", None), "pledge bob wide"),
]


class DeedTest(Case):
    def test_wrong_values(self):
        wrong = [*NO_LISTS, [], (), [-1], [0, -1], [0, 0], [1, 2, 1], [True], [0, None], ["0"], [1.0], [[0]], [Ratio(1)], range(3)]
        self.check_each_raises(BadBook("numbers"), wrong, Do)
        self.check_each_raises(BadBook("name"), NO_NAMES, Leave)
        self.check_each_raises(BadBook("number"), [*NO_NUMBERS, -1], Break)
        for kind, part in ((SetTrust, "trust"), (SetPledge, "pledge")):
            self.check_each_raises(BadBook("name"), NO_NAMES, lambda value: kind(value, -1))
            self.check_each_raises(BadBook(part), NO_BOUNDS, lambda value: kind("ann", value))
            self.check_raises(BadBook(part), kind, **{"name": "ann", part: -1})

    def test_what_they_keep(self):
        numbers = [2, 0, 7]
        deed = Do(numbers=numbers)
        numbers.append(1)
        self.check_same(("do", (0, 2, 7)), (deed.kind, deed.numbers))
        self.check_same((10 ** 70,), Do([10 ** 70]).numbers)
        self.check_same(("leave", "ann"), (Leave(name="ann").kind, Leave("ann").name))
        self.check_same(("break", 0), (Break(number=0).kind, Break(0).number))
        deed = SetTrust(name="ann", trust=2)
        self.check_same(("trust", "ann", Ratio(2)), (deed.kind, deed.name, deed.trust))
        deed = SetPledge(name="ann", pledge=None)
        self.check_same(("pledge", "ann", None), (deed.kind, deed.name, deed.pledge))
        self.assertTrue(all(isinstance(made(), Deed) for made, _ in KINDS))

    def test_equality(self):
        for place, (made, _) in enumerate(KINDS):
            self.check_equality(made, [other() for at, (other, _) in enumerate(KINDS) if at != place])
        self.assertTrue(Do((1, 0)) == Do([0, 1]) and SetTrust("a", Ratio(4, 2)) == SetTrust("a", 2))
        for one, other in [
            (Do([0]), Do([1])), (Do([0]), Do([0, 1])), (Leave("ann"), Leave("bob")), (Break(0), Break(1)), (SetTrust("ann", 1), SetTrust("bob", 1)),
            (SetTrust("ann", 1), SetTrust("ann", 2)), (SetTrust("ann", 1), SetTrust("ann", None)), (SetTrust("ann", 1), SetPledge("ann", 1)),
            (SetPledge("ann", 0), SetPledge("ann", None)), (SetPledge("ann", 1), SetPledge("bob", 1)), (Break(0), Do([0])),
        ]:
            self.assertFalse(one == other)
            self.assertTrue(one != other)

    def test_deeds_of_any_kind_are_compared_by_their_texts(self):
        for place, (made, text) in enumerate(KINDS):
            for at, (other, _) in enumerate(KINDS):
                self.assertIs(place == at, Deed.__eq__(made(), other()))
            self.assertEqual(text.split(" ")[0], Deed.__str__(made()))
        self.assertIs(False, Deed.__eq__(Do([0]), Do([1])))
        self.assertIs(False, Deed.__eq__(Do([0]), "do 0"))

    def test_texts(self):
        for made, text in KINDS:
            self.assertEqual(text, str(made()))
            found = Deed.read(text=text)
            self.assertIs(type(made()), type(found))
            self.assertEqual(made(), found)
        for text in ("do 0", "do 3 10 11", "break 0", "trust a 0", "trust a wide", "pledge abc123 0", "pledge a 1/3", "leave a"):
            self.assertEqual(text, str(Deed.read(text)))
        long = "9" * 60
        for text in (f"do {long}", f"break {long}", f"trust a {long}", f"pledge a {long[:-1]}8/{long}"):
            self.assertEqual(text, str(Deed.read(text)))

    def test_texts_that_are_none(self):
        self.check_each_raises(BadText(0, 0), [*[value for value in ODD if value != ""], 3, ["do 0"], Do([0])], Deed.read)
        long = "9" * 61
        for text, word in [
            ("", 0), (" ", 0), ("done 0", 0), ("Do 0", 0), ("leaves ann", 0), (" do 0", 0), ("do", 1), ("do ", 1), ("do x", 1), ("do -1", 1),
            ("do 0 0", 2), ("do 1 0", 2), ("do 0 2 1", 3), ("do 0  1", 2), ("do 0 ", 2), ("do 00", 1), (f"do {long}", 1), ("do 1/2", 1),
            ("leave", 1), ("leave ", 1), ("leave Ann", 1), ("leave ann bob", 2), ("leave ann ", 2), ("break", 1), ("break x", 1),
            ("break -1", 1), ("break 1 2", 2), (f"break {long}", 1), ("trust", 1), ("trust 1", 1), ("trust ann", 2), ("trust ann x", 2),
            ("trust ann -1", 2), ("trust ann 2/4", 2), ("trust ann 1 1", 3), ("trust ann Wide", 2), (f"trust ann {long}", 2),
            (f"trust ann 1/{long}", 2), ("pledge", 1), ("pledge ann", 2), ("pledge ann none", 2), ("pledge ann wide wide", 3),
            ("pledge abcdefghijklm 0", 1), ("pledge ann 0 ", 3), ("trust ann 1\n", 2),
        ]:
            self.check_raises(BadText(0, word), Deed.read, text)


if __name__ == "__main__":
    unittest.main()
