"""All errors: their fields, by place and by name, and what stands below what."""

import unittest

from lastgiver import errors
from lastgiver.errors import LastError, Missing, NoKeeper, NoStranger

PARTS = (
    "BadRatio BadHandOver BadSwap BadBounds BadLeanings BadDeal BadRow BadDone BadCounts BadDial BadWay BadKeeper "
    "BadKeepers BadLaid BadChoice BadBook BadStory BadShare BadPlay BadNumber BadPaper"
).split(" ")
FIELDS = {
    "NoHand": "number", "NoRow": "number", "Twice": "value", "Unlike": "what", "Loser": "name",
    "Below": "name side amount", "Ring": "number numbers", "Ahead": "one other", "NotGood": "moment",
    "NoWay": "done name", "Objects": "name amount place", "NotEven": "number", "NotTwo": "many",
    "NotCoprime": "one other", "TooNarrow": "number", "Beyond": "number", "Alone": "", "Left": "name",
    "Done": "number", "Broken": "number", "Leans": "number other", "Objected": "name amount",
    "DrawnOut": "name amount", "NoDeed": "", "TooMany": "what most", "BadText": "line word", "BadLine": "line error",
    "Missing": "name", "NoStranger": "name", "NoKeeper": "name", **dict.fromkeys(PARTS, "part"),
}
VALUES = [None, [1], 1.5]


class ErrorsTest(unittest.TestCase):
    def made(self, name, fields):
        """The errors of this name made of any values by place, and by name."""
        kind = getattr(errors, name)
        told = VALUES[:len(fields)]
        return [kind(*told), kind(**dict(zip(fields, told)))]

    def test_each_error_keeps_its_fields_by_place_and_by_name(self):
        for name, told in FIELDS.items():
            fields = told.split()
            for error in self.made(name, fields):
                self.assertEqual(dict(zip(fields, VALUES)), vars(error))
                for field, value in zip(fields, VALUES):
                    self.assertIs(value, getattr(error, field))

    def test_no_error_takes_more_or_fewer_fields(self):
        for name, told in FIELDS.items():
            kind, many = getattr(errors, name), len(told.split())
            if many > 0:
                self.assertRaises(TypeError, kind, *[1] * (many - 1))
                self.assertRaises(TypeError, kind, *[1] * (many + 1))

    def test_what_stands_below_what(self):
        self.assertEqual((ValueError,), LastError.__bases__)
        for name in FIELDS:
            kind = getattr(errors, name)
            base = Missing if kind in (NoStranger, NoKeeper) else LastError
            self.assertEqual((base,), kind.__bases__)
            self.assertIsInstance(self.made(name, FIELDS[name].split())[0], LastError)

    def test_the_base_has_no_fields(self):
        self.assertEqual({}, vars(LastError()))

    def test_no_error_is_missing_and_none_is_more(self):
        kinds = [name for name, value in vars(errors).items() if isinstance(value, type)]
        self.assertEqual(sorted(kinds), sorted(["LastError", *FIELDS]))


if __name__ == "__main__":
    unittest.main()
