"""The refusals and what they stand under."""

import unittest

from passby.errors import NoBox, NoDeed, NoPass, Nothing, PassbyError

REFUSALS = (NoDeed, NoPass, Nothing, NoBox)


class Errors(unittest.TestCase):
    def test_names(self):
        self.assertEqual([kind.__name__ for kind in REFUSALS], ["NoDeed", "NoPass", "Nothing", "NoBox"])
        self.assertEqual(PassbyError.__name__, "PassbyError")

    def test_any_refusal_is_a_value_error(self):
        self.assertEqual(PassbyError.__bases__, (ValueError,))

    def test_each_refusal_stands_under_passby_error(self):
        for kind in REFUSALS:
            self.assertEqual(kind.__bases__, (PassbyError,))

    def test_none_stands_under_another(self):
        for kind in REFUSALS:
            for other in REFUSALS:
                self.assertEqual(issubclass(kind, other), kind.__name__ == other.__name__)

    def test_each_can_be_raised_and_taken(self):
        for kind in REFUSALS:
            for taken in (kind, PassbyError, ValueError):
                with self.assertRaises(taken):
                    raise kind("words")


if __name__ == "__main__":
    unittest.main()
