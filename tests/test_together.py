"""Promises [3], [10], [21], [23] and [24], with [2]: all lanes go alone from meeting to meeting."""

import copy
import random
import unittest

from alone_cases import fields_of, spoil
from outcome_cases import OutcomeCase
from program_texts import let_text, main, program_text, texts
from second_lane import LEAST, MOST, OUTCOME_FIELDS, second_together

from widelanes.marks import is_let
from widelanes.texts import read
from widelanes.together import together


class TogetherCase(OutcomeCase):
    def assert_sound(self, program, mines, boxes, most):
        outcome = self.asked(together, program, mines, boxes, most)
        self.assert_fields(outcome, second_together(program, mines, boxes, most))
        return outcome

    def outcome(self, text, mines=(0, 0), boxes=(), most=1000):
        return self.assert_sound(read(text), list(mines), list(boxes), most)

    def assert_outcome(self, text, meant, **handed):
        self.assert_fields(self.outcome(text, **handed), meant)

    def assert_clash(self, text, clash, letters=(), **handed):
        self.assert_clashed(self.outcome(text, **handed), clash, letters)


class TestOutcomes(TogetherCase):
    def test_without_meetings(self):
        self.assert_outcome(main("tell + mine lane", "put lane mine", "tell lanes"), {
            "letters": [], "clash": None, "ends": [("done", 5)] * 3, "told": [[7, 3], [9, 3], [-2, 3]],
            "steps": [3, 3, 3], "boxes": [7, 8, -4, 0], "trace": [],
        }, mines=(7, 8, -4), boxes=[0] * 4)

    def test_one_lane(self):
        self.assert_outcome(main("put 0 4", "join x sum 5", "tell x", "join y ahead 5", "tell y", "tell box 0"), {
            "letters": [(3, [5], [4]), (5, [5], [4])], "ends": [("done", 8)], "told": [[5, 0, 4]], "steps": [6],
            "boxes": [4], "clash": None, "trace": [],
        }, mines=[0], boxes=[0])

    def test_one_to_eight_lanes(self):
        text = main("put lane mine", "join x sum mine", "tell x", "join y ahead 1", "tell y", "tell lanes",
                    "tell box rem + lane 1 lanes")
        for lanes in range(1, 9):
            mines = [10 * at for at in range(1, lanes + 1)]
            self.assert_outcome(text, {
                "letters": [(3, mines, mines), (5, [1] * lanes, mines)],
                "told": [[sum(mines), lane, lanes, mines[(lane + 1) % lanes]] for lane in range(lanes)],
                "ends": [("done", 9)] * lanes, "steps": [7] * lanes, "boxes": mines,
            }, mines=mines, boxes=[0] * lanes)

    def test_an_empty_main(self):
        self.assert_outcome(main(), {"letters": [], "ends": [("done", 2)] * 2, "told": [[], []], "steps": [0, 0],
                                     "boxes": [], "trace": []})

    def test_ends_of_each_kind(self):
        text = texts("def main", "if = lane 0", "stop", "end", "if = lane 1", "tell div 1 0", "end", "if = lane 2",
                     "tell box -1", "end", "if = lane 3", "call x f", "end", "if = lane 4", "while 1", "end", "end",
                     "end", "def f", "call x f", "end")
        self.assert_outcome(text, {
            "ends": [("done", 3), ("nought", 6), ("outside", 9), ("deep", 20), ("tired", 15), ("done", 18)],
            "steps": [2, 3, 4, 10, 50, 5], "clash": None,
        }, mines=[0] * 6, boxes=[0], most=50)

    def test_no_steps(self):
        self.assert_outcome(main("meet"), {"ends": [("tired", 2)] * 2, "steps": [0, 0], "letters": []}, most=0)

    def test_mines_and_boxes_are_wrapped_first(self):
        text = main("tell mine", "put lane mine", "tell box 3", "meet", "join x most mine", "tell x")
        self.assert_outcome(text, {
            "told": [[LEAST, 5, 7], [7, 5, 7]], "boxes": [LEAST, 7, LEAST, 5],
            "letters": [(5, [0, 0], [LEAST, 7, LEAST, 5]), (6, [LEAST, 7], [LEAST, 7, LEAST, 5])],
        }, mines=[MOST + 1, 4294967296 * 3 + 7], boxes=[1, 1, MOST + 1, 5 - 4294967296])

    def test_a_phase_of_each_lane_in_its_own_boxes(self):
        text = main("put lane 1", "put lane + box lane 1", "put + lane lanes box lane", "tell box + lane lanes")
        self.assert_outcome(text, {"clash": None, "boxes": [2, 2, 2, 2, 2, 2], "told": [[2]] * 3},
                            mines=[0] * 3, boxes=[0] * 6)

    def test_all_read_the_same_box(self):
        text = main("tell box 0", "meet", "tell + box 0 box 1")
        self.assert_outcome(text, {"clash": None, "told": [[5, 11]] * 4, "boxes": [5, 6]}, mines=[0] * 4, boxes=[5, 6])

    def test_a_box_put_by_one_and_read_by_others_behind_a_meeting(self):
        text = main("if = lane 1", "put 0 44", "end", "meet", "tell box 0", "meet", "if = lane 0", "put 0 55", "end",
                    "meet", "tell box 0")
        self.assert_outcome(text, {
            "clash": None, "told": [[44, 55]] * 3, "boxes": [55],
            "letters": [(5, [0] * 3, [44]), (7, [0] * 3, [44]), (11, [0] * 3, [55])],
        }, mines=[0] * 3, boxes=[0])

    def test_letters_of_lanes_that_have_ended(self):
        text = main("if = lane 1", "stop", "end", "join x sum mine", "tell x", "if = lane 0", "tell div 1 0", "end",
                    "join y most mine", "tell y", "join z ahead mine", "tell z", "tell lanes")
        self.assert_outcome(text, {
            "letters": [(5, [5, None, 7, 8], []), (10, [None, None, 7, 8], []), (12, [None, None, 7, 8], [])],
            "told": [[20], [], [20, 8, 0, 4], [20, 8, 7, 4]],
            "ends": [("nought", 8), ("done", 3), ("done", 15), ("done", 15)], "steps": [5, 2, 9, 9],
        }, mines=[5, 6, 7, 8])

    def test_what_lanes_put_before_they_end_is_in_the_boxes(self):
        text = main("put lane + 10 lane", "if = lane 0", "stop", "end", "meet", "tell box 0", "put lane 1")
        self.assert_outcome(text, {
            "letters": [(6, [None, 0, 0], [10, 11, 12])], "told": [[], [10], [10]], "boxes": [10, 1, 1],
        }, mines=[0] * 3, boxes=[0] * 3)

    def test_a_lane_that_is_tired_ahead_of_a_meeting(self):
        text = main("set x mine", "while x", "set x - x 1", "end", "join y sum 1", "tell y")
        self.assert_outcome(text, {
            "letters": [(6, [1, None, 1], [])], "told": [[2], [], [2]],
            "ends": [("done", 8), ("tired", 4), ("done", 8)], "steps": [4, 10, 10],
        }, mines=[0, 9, 3], most=10)

    def test_an_ended_lanes_touches_are_of_its_own_phase(self):
        # Lane 0 ends in the first phase; what it touched there clashes with nothing of the later ones.
        text = main("if = lane 0", "put 0 3", "stop", "end", "meet", "if = lane 1", "put 0 + box 0 1", "end", "meet",
                    "tell box 0")
        self.assert_outcome(text, {"clash": None, "told": [[], [4], [4]], "boxes": [4]}, mines=[0] * 3, boxes=[0])

    def test_meetings_in_a_while(self):
        text = main("set n 3", "while n", "put lane n", "join x sum box lane", "tell x", "set n - n 1", "end")
        self.assert_outcome(text, {
            "letters": [(5, [3, 3], [3, 3]), (5, [2, 2], [2, 2]), (5, [1, 1], [1, 1])], "told": [[6, 4, 2]] * 2,
        }, boxes=[0, 0])

    def test_meetings_in_a_def(self):
        text = texts("def main", "call x total mine", "tell x", "call x total x", "tell x", "end",
                     "def total a", "join s sum a", "return s", "end")
        self.assert_outcome(text, {"letters": [(8, [3, 4], []), (8, [7, 7], [])], "told": [[7, 14]] * 2}, mines=[3, 4])

    def test_as_many_meetings_as_steps(self):
        outcome = self.outcome(main("while 1", "meet", "end"), mines=[0] * 8, boxes=[1] * 32)
        self.assertEqual(len(outcome.letters), 500)
        self.assertEqual(outcome.ends, [("tired", 2)] * 8)


class TestClashes(TogetherCase):
    def test_two_puts(self):
        self.assert_clash(main("put 0 1"), (0, 0, 2, 1, 2), boxes=[1])
        self.assert_clash(main("put 0 lane"), (0, 0, 2, 1, 2), boxes=[0], mines=[0] * 5)

    def test_a_reading_and_a_put(self):
        for one, other in (("put 1 1", "tell box 1"), ("tell box 1", "put 1 1")):
            self.assert_clash(main("tell 1", "if lane", one, "else", other, "end"), (1, 0, 6, 1, 4), boxes=[0, 0])

    def test_one_lane_never_clashes(self):
        text = main("put 0 1", "tell box 0", "put 0 2")
        self.assert_outcome(text, {"clash": None, "boxes": [2]}, mines=[0], boxes=[0])

    def test_a_touch_that_is_not_made_does_not_clash(self):
        self.assert_outcome(main("if lane", "put 9 1", "else", "tell box 9", "end"),
                            {"clash": None, "ends": [("outside", 5), ("outside", 3)]}, boxes=[0])

    def test_the_least_of_the_phase_is_told(self):
        # Places go first, then the lesser lane, its line, the other lane, its line.
        text = main("put 3 1", "put 1 1", "put 2 1")
        self.assert_clash(text, (1, 0, 3, 1, 3), boxes=[0] * 4, mines=[0] * 3)
        text = main("if = lane 2", "put 0 1", "end", "if = lane 1", "put 0 1", "end", "if = lane 3", "tell box 0",
                    "end")
        self.assert_clash(text, (0, 1, 6, 2, 3), boxes=[0], mines=[0] * 4)
        text = main("if = lane 0", "tell box 0", "put 0 1", "end", "if = lane 1", "put 0 1", "end")
        self.assert_clash(text, (0, 0, 3, 1, 7), boxes=[0])
        text = main("if = lane 0", "tell box 0", "put 0 1", "end", "if = lane 1", "tell box 0", "put 0 1", "end")
        self.assert_clash(text, (0, 0, 3, 1, 8), boxes=[0])
        text = main("if = lane 0", "tell 1", "put 0 1", "end", "if = lane 1", "tell box 0", "put 0 1", "end")
        self.assert_clash(text, (0, 0, 4, 1, 7), boxes=[0])

    def test_lines_may_fall_while_the_lane_goes_on(self):
        text = texts("def f", "put 0 1", "end",
                     "def main", "tell box 0", "if = lane 1", "put 0 2", "call x f", "end", "end")
        self.assert_clash(text, (0, 0, 5, 1, 2), boxes=[0])

    def test_two_lanes_beside_others_that_do_not_touch(self):
        text = main("if < 4 lane", "put 2 lane", "end")
        self.assert_clash(text, (2, 5, 3, 6, 3), boxes=[0] * 3, mines=[0] * 8)

    def test_letters_ahead_of_the_clash(self):
        text = main("put lane 7", "join x sum 2", "meet", "tell box 0", "put 1 5")
        self.assert_clash(text, (1, 0, 6, 1, 6), letters=[(3, [2, 2], [7, 7]), (4, [0, 0], [7, 7])], boxes=[0, 0])

    def test_a_clash_in_the_first_of_several_phases(self):
        self.assert_clash(main("put 0 1", "meet", "put lane 1"), (0, 0, 2, 1, 2), boxes=[0, 0])

    def test_a_clash_of_lanes_that_end_in_the_phase(self):
        text = main("if = lane 0", "put 0 1", "stop", "end", "tell box 0", "meet")
        self.assert_clash(text, (0, 0, 3, 1, 6), boxes=[0])
        text = main("put 0 1", "tell div 1 0")
        self.assert_clash(text, (0, 0, 2, 1, 2), boxes=[0])

    def test_touches_ahead_of_a_fault_of_the_same_line(self):
        text = main("if lane", "put 0 div 1 0", "end", "put 0 box 0")
        self.assert_outcome(text, {"clash": None, "ends": [("done", 6), ("nought", 3)]}, boxes=[0])
        text = main("if lane", "put 0 div box 0 0", "end", "put 0 1")
        self.assert_clash(text, (0, 0, 5, 1, 3), boxes=[0])

    def test_lanes_that_would_come_to_unlike_meetings_but_for_the_clash(self):
        # Each lane sees its own put alone; no letter is made of two unlike meetings.
        text = main("put 0 lane", "if box 0", "meet", "else", "join x sum 1", "end")
        self.assert_clash(text, (0, 0, 2, 1, 2), boxes=[0])
        text = main("put 0 lane", "if box 0", "meet", "end")
        self.assert_clash(text, (0, 0, 2, 1, 2), boxes=[0])

    def test_a_join_reads_ahead_of_its_meeting(self):
        text = main("if lane", "put 0 1", "end", "join x sum box 0")
        self.assert_clash(text, (0, 0, 5, 1, 3), boxes=[0])
        text = main("join x sum box 0", "if lane", "put 0 1", "end")
        self.assert_outcome(text, {"clash": None, "boxes": [1]}, boxes=[0])


class TestRefusals(TogetherCase):
    def test_a_program_that_is_not_let(self):
        for text in (main("if lane", "meet", "end"), main("while mine", "join x sum 1", "end"),
                     texts("def main", "if lane", "call x f", "end", "end", "def f", "meet", "end"),
                     main("stop", "if lane", "meet", "end"),
                     texts("def main", "end", "def f", "if mine", "meet", "end", "end")):
            for mines in ([1], [0, 0], [0] * 8):
                self.assert_refused(together, read(text), mines, [0], 100)


class TestTheAskersOwn(TogetherCase):
    def test_what_is_told_stays_whatever_is_done_later(self):
        program = read(main("put lane 1", "join x sum 1", "tell x", "meet"))
        mines, boxes = [0, 0], [4, 5]
        one = together(program, mines, boxes, 100)
        kept = copy.deepcopy(fields_of(one, OUTCOME_FIELDS))
        other = together(program, mines, boxes, 100)
        spoil(fields_of(other, OUTCOME_FIELDS))
        spoil([mines, boxes])
        self.assertEqual(fields_of(one, OUTCOME_FIELDS), kept)
        self.assertEqual(fields_of(together(program, [0, 0], [4, 5], 100), OUTCOME_FIELDS), kept)


class TestTogetherAndAlone(TogetherCase):
    def assert_seed(self, seed, program):
        source = random.Random(seed)
        mines = [source.choice((0, 1, 2, 3, -4, 7, 2 ** 40 + 1)) for each in range(source.randrange(1, 9))]
        boxes = [source.choice((0, 1, 2, -1, 2 ** 40 + 3)) for each in range(source.choice((0, 4, 12, 16, 32)))]
        most = source.choice((10, 60, 300, 1000))
        outcome = self.assert_sound(program, mines, boxes, most)
        found = self.assert_alone(outcome, program, mines, boxes, most)
        self.assertEqual(outcome.clash, min(found, default=None))
        return outcome

    def test_calm_programs(self):
        for seed in range(300):
            program = read(let_text(seed))
            self.assertTrue(is_let(program))
            self.assertIsNone(self.assert_seed(seed, program).clash)

    def test_wild_programs(self):
        clashes = [self.assert_seed(seed, read(let_text(seed, 0.4))).clash for seed in range(400)]
        self.assertIn(None, clashes)
        self.assertGreater(len(set(clashes)), 20)

    def test_programs_of_all_kinds(self):
        for seed in range(400):
            program = read(program_text(seed, own=0.1))
            if is_let(program):
                self.assert_seed(seed, program)


if __name__ == "__main__":
    unittest.main()
