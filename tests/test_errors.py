"""Point 5: the errors."""

import unittest

from overstamps import errors
from tests.things import BIG

MADE_WITH_A_STRING = [
    "InvalidStamps", "InvalidText", "InvalidStrip", "InvalidParts", "InvalidStamping", "InvalidOrder", "InvalidName",
    "InvalidNumber", "NotPossible", "NothingToUndo",
]


class Errors(unittest.TestCase):
    def test_the_base_class_is_a_value_error(self):
        self.assertEqual(errors.StampError.__bases__, (ValueError,))

    def test_eleven_direct_subclasses(self):
        for name in MADE_WITH_A_STRING + ["InvalidCode"]:
            self.assertEqual(getattr(errors, name).__bases__, (errors.StampError,), name)
            self.assertEqual(getattr(errors, name).__name__, name)

    def test_none_is_a_subclass_of_another_one(self):
        kinds = [getattr(errors, name) for name in MADE_WITH_A_STRING + ["InvalidCode"]]
        for one in kinds:
            self.assertEqual([other for other in kinds if issubclass(one, other)], [one])

    def test_each_is_defined_in_the_file_of_errors(self):
        for name in MADE_WITH_A_STRING + ["InvalidCode", "StampError"]:
            self.assertEqual(getattr(errors, name).__module__, "overstamps.errors")

    def test_made_with_one_string_and_caught_as_base_classes(self):
        for name in MADE_WITH_A_STRING:
            kind = getattr(errors, name)
            for base in (kind, errors.StampError, ValueError):
                with self.assertRaises(base) as caught:
                    raise kind("a reason")
                self.assertIs(type(caught.exception), kind)
                self.assertIn("a reason", str(caught.exception))

    def test_invalid_code_keeps_its_argument(self):
        for at in (0, 1, 7, 200, BIG):
            self.assertEqual(errors.InvalidCode(at).at, at)
            self.assertEqual(errors.InvalidCode(at=at).at, at)
            with self.assertRaises(errors.StampError) as caught:
                raise errors.InvalidCode(at)
            self.assertIs(type(caught.exception), errors.InvalidCode)
            self.assertEqual(caught.exception.at, at)


if __name__ == "__main__":
    unittest.main()
