"""The classes of the refusals: the interface and point 12."""

import unittest

from riverloops import errors
from riverloops.errors import NoArcs, NoNumber, NotRead, RiverError, TooMany, Unlike

REFUSALS = [NoArcs, NoNumber, Unlike, TooMany, NotRead]


class TestErrors(unittest.TestCase):
    def test_any_refusal_is_a_value_error(self):
        self.assertEqual(RiverError.__bases__, (ValueError,))

    def test_each_refusal_stands_under_river_error_alone(self):
        for refusal in REFUSALS:
            self.assertEqual(refusal.__bases__, (RiverError,))

    def test_names(self):
        for name in ["RiverError", "NoArcs", "NoNumber", "Unlike", "TooMany", "NotRead"]:
            self.assertEqual(getattr(errors, name).__name__, name)

    def test_each_is_raised_and_taken_by_every_class_above_it(self):
        for refusal in REFUSALS:
            for taken in (refusal, RiverError, ValueError):
                with self.assertRaises(taken):
                    raise refusal("words")

    def test_no_refusal_is_taken_for_another(self):
        for refusal in REFUSALS:
            for other in REFUSALS:
                self.assertEqual(issubclass(refusal, other), refusal == other)


if __name__ == "__main__":
    unittest.main()
