"""Promise [9], its last sentence, with [2] and [4]: what a lane is given of the numbers brought to a meeting."""

import random
import unittest

from second_lane import LEAST, MOST, join

from widelanes.joints import joined

WORDS = ("sum", "most", "least", "ahead")


class TestJoined(unittest.TestCase):
    def assert_joined(self, word, brought, lane, meant):
        before = list(brought)
        told = joined(word, brought, lane)
        self.assertIs(type(told), int)
        self.assertEqual(told, meant, (word, brought, lane))
        self.assertEqual(brought, before)

    def assert_for_all(self, word, brought, meant):
        """Each lane that brings a number is given the same one."""
        for lane, number in enumerate(brought):
            if number is not None:
                self.assert_joined(word, brought, lane, meant)

    def assert_each(self, brought, meant):
        """What each lane is given by ahead; None stands for one that has ended."""
        for lane, number in enumerate(meant):
            if number is not None:
                self.assert_joined("ahead", brought, lane, number)

    def test_one_lane(self):
        for n in (0, 5, -5, LEAST, MOST):
            for word in ("sum", "most", "least"):
                self.assert_joined(word, [n], 0, n)
            self.assert_joined("ahead", [n], 0, 0)

    def test_several_lanes(self):
        brought = [3, -7, 3, 10]
        self.assert_for_all("sum", brought, 9)
        self.assert_for_all("most", brought, 10)
        self.assert_for_all("least", brought, -7)
        self.assert_each(brought, [0, 3, -4, -1])

    def test_eight_lanes(self):
        brought = [1, 2, 4, 8, 16, 32, 64, 128]
        self.assert_for_all("sum", brought, 255)
        self.assert_for_all("most", brought, 128)
        self.assert_for_all("least", brought, 1)
        self.assert_each(brought, [0, 1, 3, 7, 15, 31, 63, 127])

    def test_lanes_that_have_ended_bring_nothing(self):
        brought = [None, -4, None, -9, None]
        self.assert_for_all("sum", brought, -13)
        self.assert_for_all("most", brought, -4)
        self.assert_for_all("least", brought, -9)
        self.assert_each(brought, [None, 0, None, -4, None])
        brought = [None, 4, None, 9, None]
        self.assert_for_all("most", brought, 9)
        self.assert_for_all("least", brought, 4)

    def test_one_lane_is_left(self):
        for lanes in range(1, 9):
            for lane in range(lanes):
                for n in (0, 6, LEAST, MOST):
                    brought = [None] * lanes
                    brought[lane] = n
                    for word in ("sum", "most", "least"):
                        self.assert_joined(word, brought, lane, n)
                    self.assert_joined("ahead", brought, lane, 0)

    def test_noughts_are_numbers(self):
        self.assert_for_all("most", [-3, 0, None, -1], 0)
        self.assert_for_all("least", [3, 0, None, 1], 0)
        self.assert_for_all("sum", [0, None, 0], 0)

    def test_none_at_any_place_but_the_lanes_own(self):
        for lane in range(4):
            for gone in range(4):
                if gone != lane:
                    brought = [10, 20, 30, 40]
                    brought[gone] = None
                    left = [n for n in brought if n is not None]
                    self.assert_joined("sum", brought, lane, sum(left))
                    self.assert_joined("most", brought, lane, max(left))
                    self.assert_joined("least", brought, lane, min(left))
                    self.assert_joined("ahead", brought, lane, sum(n for n in brought[:lane] if n is not None))

    def test_sums_that_are_wrapped(self):
        self.assert_for_all("sum", [MOST, 1], LEAST)
        self.assert_for_all("sum", [LEAST, -1], MOST)
        self.assert_for_all("sum", [MOST] * 8, -8)
        self.assert_for_all("sum", [LEAST] * 8, 0)
        self.assert_for_all("sum", [LEAST] * 7, LEAST)
        self.assert_for_all("sum", [MOST, None, MOST, None, MOST], 2147483645)
        self.assert_for_all("sum", [MOST, 1, LEAST, LEAST], LEAST)
        self.assert_each([MOST, 1, 5], [0, MOST, LEAST])
        self.assert_each([LEAST, -1, 5], [0, LEAST, MOST])
        self.assert_each([MOST] * 8, [0, MOST, -2, 2147483645, -4, 2147483643, -6, 2147483641])

    def test_the_ends_of_the_range(self):
        for brought in ([LEAST, MOST], [MOST, LEAST], [0, MOST, None, LEAST]):
            self.assert_for_all("most", brought, MOST)
            self.assert_for_all("least", brought, LEAST)
            self.assert_for_all("sum", brought, -1)

    def test_many_lists(self):
        source = random.Random(9)
        for each in range(2000):
            lanes = source.randrange(1, 9)
            lane = source.randrange(lanes)
            brought = [source.choice((None, LEAST, MOST, 0, source.randint(LEAST, MOST))) for each in range(lanes)]
            if brought[lane] is None:
                brought[lane] = source.randint(LEAST, MOST)
            for word in WORDS:
                self.assert_joined(word, brought, lane, join(word, brought, lane))


if __name__ == "__main__":
    unittest.main()
