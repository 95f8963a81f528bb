"""The interface's heading widelanes/errors.py: the refusals and how they stand."""

import unittest

from widelanes.errors import LaneError, NoHead, NoLine, NoName, NoNest, TooMuch, Waits

REFUSALS = (TooMuch, NoLine, NoNest, NoName, Waits, NoHead)


class TestErrors(unittest.TestCase):
    def test_lane_error_stands_straight_under_value_error(self):
        self.assertEqual(LaneError.__bases__, (ValueError,))

    def test_each_refusal_stands_straight_under_lane_error(self):
        for refusal in REFUSALS:
            self.assertEqual(refusal.__bases__, (LaneError,), refusal)

    def test_no_refusal_stands_under_another(self):
        for one in REFUSALS:
            for other in REFUSALS:
                self.assertEqual(issubclass(one, other), one is other, (one, other))

    def test_names_are_those_of_the_interface(self):
        names = [refusal.__name__ for refusal in REFUSALS]
        self.assertEqual(names, ["TooMuch", "NoLine", "NoNest", "NoName", "Waits", "NoHead"])

    def test_each_is_raised_with_words_and_taken_as_any_refusal(self):
        for refusal in REFUSALS:
            with self.assertRaises(LaneError) as taken:
                raise refusal("some words")
            self.assertIs(type(taken.exception), refusal)
            self.assertEqual(str(taken.exception), "some words")


if __name__ == "__main__":
    unittest.main()
