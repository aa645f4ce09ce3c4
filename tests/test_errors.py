"""[5]: the errors of the package and their fields."""

import unittest

from heirstamps import errors

PLAIN = (
    "InvalidShare", "InvalidCounts", "InvalidStamp", "InvalidPath", "InvalidMark", "InvalidLot", "InvalidCount",
    "InvalidLoose", "InvalidWorths", "InvalidRow", "InvalidPlan", "InvalidDeed", "InvalidRows", "InvalidNumbers",
    "InvalidDot", "InvalidDots", "InvalidShelf", "InvalidCrew", "InvalidMember", "InvalidPaper", "InvalidCommand",
    "Refused", "NothingToUndo", "NoSpan", "NotReady",
)
FIELDS = {
    "InvalidHistory": "index", "InvalidText": "index", "InvalidStrikes": "index", "InvalidSteps": "index",
    "TooMany": "count", "NotShown": "count", "Overlap": "path", "NotLost": "path", "NotHeard": "member",
    "NotNarrow": "lot",
}


class Errors(unittest.TestCase):

    def test_stamp_error_is_a_value_error(self):
        self.assertEqual(errors.StampError.__bases__, (ValueError,))

    def test_each_stands_directly_under_stamp_error(self):
        for name in PLAIN + tuple(FIELDS):
            with self.subTest(name):
                self.assertEqual(getattr(errors, name).__bases__, (errors.StampError,))

    def test_each_is_defined_in_its_file(self):
        for name in ("StampError",) + PLAIN + tuple(FIELDS):
            with self.subTest(name):
                self.assertEqual(getattr(errors, name).__module__, "heirstamps.errors")
                self.assertEqual(getattr(errors, name).__name__, name)

    def test_plain_ones_are_made_with_one_string(self):
        for name in PLAIN:
            with self.subTest(name):
                with self.assertRaises(getattr(errors, name)):
                    raise getattr(errors, name)("some words")

    def test_fields_by_position_and_by_name(self):
        for name, field in FIELDS.items():
            with self.subTest(name):
                error = getattr(errors, name)
                self.assertEqual(getattr(error(7), field), 7)
                self.assertEqual(getattr(error(**{field: 8}), field), 8)
                with self.assertRaises(error):
                    raise error(0)

    def test_the_very_value_is_kept(self):
        for name, field in FIELDS.items():
            for value in ([1, [2]], (0, 1), None, "words"):
                with self.subTest(name, value=value):
                    error = getattr(errors, name)
                    self.assertIs(getattr(error(value), field), value)
                    self.assertIs(getattr(error(**{field: value}), field), value)


if __name__ == "__main__":
    unittest.main()
