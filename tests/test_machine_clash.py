"""Promises [3], [10], [25] and [26]: the first clash that the turns of a run come to."""

import unittest

from program_texts import main, texts
from run_cases import RunCase

from widelanes.could import could
from widelanes.texts import read
from widelanes.together import together


class ClashCase(RunCase):
    def assert_first(self, text, clash, letters=(), mines=(0, 0), boxes=(0, 0, 0, 0), picks=None):
        self.assert_clash(text, clash, letters, mines=mines, boxes=boxes, picks=picks)
        self.assertIn(tuple(sorted((clash[2], clash[4]))), could(read(text)))

    def assert_none(self, text, meant, mines=(0, 0), boxes=(0, 0, 0, 0)):
        for picks in (None, [1], [0, 1], [1, 0]):
            outcome = self.outcome(text, mines=mines, boxes=boxes, picks=picks)
            self.assertIsNone(outcome.clash)
            self.assert_fields(outcome, meant)


class TestTheClash(ClashCase):
    def test_all_lanes_put_to_one_box(self):
        for lanes in range(2, 9):
            self.assert_first(main("put 1 lane"), (1, 0, 2, 1, 2), mines=[0] * lanes)
        self.assert_none(main("put 1 lane"), {"boxes": [0, 0, 0, 0]}, mines=[0])

    def test_lanes_do_a_row_in_the_order_of_their_numbers(self):
        # Lane 2 puts to the box that lane 0 put to, ahead of lane 3 and lane 1's.
        self.assert_first(main("put mine 1"), (1, 0, 2, 2, 2), mines=[1, 3, 1, 3])
        self.assert_first(main("put mine 1"), (3, 1, 2, 2, 2), mines=[1, 3, 3, 1])
        self.assert_first(main("put lane box mine"), (0, 0, 2, 1, 2), mines=[3, 0, 1])

    def test_another_one_than_that_of_together(self):
        text = main("put 3 1", "put 1 1")
        self.assert_first(text, (3, 0, 2, 1, 2))
        self.assertEqual(together(read(text), [0, 0], [0] * 4, 100).clash, (1, 0, 3, 1, 3))

    def test_readings_do_not_clash(self):
        self.assert_none(main("tell box 0", "tell box 0", "meet", "tell box 0"), {"told": [[5, 5, 5]] * 3},
                         mines=[0] * 3, boxes=[5])

    def test_boxes_of_each_lane_do_not_clash(self):
        self.assert_none(main("put lane 4", "tell box lane", "put + 2 lane 1"), {"boxes": [4, 4, 1, 1]})

    def test_a_reading_and_a_put_of_parted_groups(self):
        text = main("if lane", "put 0 1", "else", "tell box 0", "end")
        for picks in (None, [1]):
            self.assert_first(text, (0, 0, 5, 1, 3), picks=picks)
        text = main("if lane", "tell box 0", "else", "put 0 1", "end")
        for picks in (None, [1]):
            self.assert_first(text, (0, 0, 5, 1, 3), picks=picks)

    def test_picks_change_which_touches_are_told(self):
        text = main("if = lane 0", "put 0 1", "end", "if = lane 1", "tell box 0", "else", "tell + box 0 1", "end")
        self.assert_first(text, (0, 0, 3, 1, 6), mines=[0] * 3)
        self.assert_first(text, (0, 0, 3, 2, 8), mines=[0] * 3, picks=[0, 1])

    def test_the_earliest_touch_is_named(self):
        text = main("tell + box 0 1", "tell box 0", "if = lane 1", "put 0 1", "end")
        self.assert_first(text, (0, 0, 2, 1, 5), mines=[0] * 3)
        text = main("if = lane 2", "tell box 0", "end", "if = lane 1", "tell box 0", "end", "if = lane 0", "put 0 1",
                    "end")
        self.assert_first(text, (0, 0, 9, 2, 3), mines=[0] * 3)

    def test_letters_ahead_of_it(self):
        text = main("put lane 7", "join x sum + 1 lane", "tell x", "meet", "put x 1")
        letters = [(3, [1, 2], [7, 7, 0, 0]), (5, [0, 0], [7, 7, 0, 0])]
        for picks in (None, [1]):
            self.assert_first(text, (3, 0, 6, 1, 6), letters=letters, picks=picks)

    def test_a_meeting_parts_touches(self):
        for meeting in ("meet", "join x sum 1"):
            text = main("if lane", "put 0 5", "end", meeting, "tell box 0", meeting, "if = lane 0", "put 0 6", "end")
            self.assert_none(text, {"told": [[5], [5]], "boxes": [6, 0, 0, 0]})

    def test_touches_of_lanes_that_have_ended_count_in_their_phase(self):
        text = main("if lane", "put 0 5", "stop", "end", "tell box 0")
        for picks in (None, [1]):
            self.assert_first(text, (0, 0, 6, 1, 3), picks=picks)
        text = main("if lane", "put 0 5", "stop", "end", "meet", "tell box 0")
        self.assert_none(text, {"told": [[5], []]})

    def test_a_place_outside_is_no_touch(self):
        self.assert_none(main("put 4 1"), {"ends": [("outside", 2)] * 2})
        self.assert_none(main("if lane", "put -1 1", "else", "tell box -1", "end"),
                         {"ends": [("outside", 5), ("outside", 3)]})

    def test_a_clash_ahead_of_a_fault_of_the_same_row(self):
        # Lane 2 would be outside in the same turn; the run ends all the same.
        self.assert_first(main("put mine 1"), (0, 0, 2, 1, 2), mines=[0, 0, 9])

    def test_a_join_reads_ahead_of_its_meeting(self):
        text = main("if lane", "put 0 1", "end", "join x sum box 0")
        self.assert_first(text, (0, 0, 5, 1, 3))
        text = main("join x sum box 0", "if lane", "put 0 1", "end")
        self.assert_none(text, {"letters": [(2, [0, 0], [0, 0, 0, 0])], "boxes": [1, 0, 0, 0]})

    def test_within_calls(self):
        text = texts("def main", "if lane", "call x f 1", "else", "call x f 2", "end", "end",
                     "def f n", "put 3 n", "end")
        for picks in (None, [1]):
            self.assert_first(text, (3, 0, 9, 1, 9), picks=picks)

    def test_lanes_never_come_to_unlike_meetings(self):
        # Each lane by itself would see its own put alone; the clash comes ahead.
        text = main("put 0 lane", "if box 0", "meet", "else", "join x sum 1", "end")
        self.assert_first(text, (0, 0, 2, 1, 2))
        text = main("if lane", "put 0 1", "end", "if box 0", "meet", "end")
        for picks in (None, [1]):
            self.assert_first(text, (0, 0, 5, 1, 3), picks=picks)

    def test_one_lane_is_left_and_does_what_it_likes(self):
        text = main("if lane", "stop", "end", "put 0 1", "tell box 0", "put 0 + box 0 1", "join x sum box 0", "tell x")
        self.assert_none(text, {"told": [[1, 2], [], []], "boxes": [2, 0, 0, 0],
                                "letters": [(8, [2, None, None], [2, 0, 0, 0])]}, mines=[0] * 3)


if __name__ == "__main__":
    unittest.main()
