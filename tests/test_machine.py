"""Promises [24], [26] and [27], with [2] and [9]: runs of one lane, and of several whose ways are alike."""

import copy
import unittest

from alone_cases import fields_of, spoil
from program_texts import main, program_text, texts
from run_cases import RunCase
from second_lane import LEAST, MOST, OUTCOME_FIELDS

from widelanes.alone import alone
from widelanes.machine import run
from widelanes.marks import is_let
from widelanes.texts import read


class TestOneLane(RunCase):
    def assert_one(self, text, *rows, mine=0, boxes=(), most=1000, **meant):
        """The turns (row, depth) of the only lane; end, steps, told numbers and boxes as of the lane alone."""
        outcome = self.outcome(text, mines=[mine], boxes=boxes, most=most)
        self.assertEqual(outcome.trace, [(row, depth, 1) for row, depth in rows])
        story = alone(read(text), 0, 1, mine, list(boxes), most, outcome.letters)
        self.assert_fields(outcome, {"clash": None, "ends": [story.end], "steps": [story.steps], "told": [story.told]})
        self.assert_fields(outcome, meant)

    def straight(self, last):
        return [(row, 1) for row in range(last + 1)]

    def test_an_empty_main(self):
        self.assert_one(main(), (0, 1), ends=[("done", 2)], steps=[0], told=[[]], boxes=[], letters=[])

    def test_set_put_tell(self):
        self.assert_one(main("set x 5", "tell x"), *self.straight(6), told=[[5]], ends=[("done", 4)], steps=[2])
        self.assert_one(main("put 1 + 2 mine"), *self.straight(6), mine=7, boxes=[3, 3], ends=[("done", 3)])
        outcome = self.outcome(main("put 1 + 2 mine"), mines=[7], boxes=[3, 3])
        self.assertEqual(outcome.boxes, [3, 9])

    def test_numbers(self):
        for word, one, other, meant in (
            ("+", MOST, 1, LEAST), ("-", LEAST, 1, MOST), ("*", MOST, MOST, 1), ("div", -7, 2, -4), ("rem", -7, 2, 1),
            ("div", LEAST, -1, LEAST), ("rem", 7, -2, -1), ("<", -1, 0, 1), ("<", 0, 0, 0), ("=", 0, 0, 1),
            ("=", 1, 2, 0),
        ):
            self.assert_outcome(main(f"tell {word} box 0 box 1"), {"told": [[meant]]}, mines=[0], boxes=[one, other])
        self.assert_outcome(main("tell lane", "tell lanes", "tell mine", "tell x", "tell -999999999"),
                            {"told": [[0, 1, 8, 0, -999999999]]}, mines=[8])

    def test_mine_and_boxes_are_wrapped_first(self):
        outcome = self.outcome(main("tell mine", "tell box 0"), mines=[MOST + 1], boxes=[3 ** 125, LEAST - 1])
        self.assert_fields(outcome, {"told": [[LEAST, -232069101]], "boxes": [-232069101, MOST]})

    def test_if(self):
        text = main("if mine", "tell 1", "end", "tell 2")
        self.assert_one(text, *self.straight(9), mine=1, told=[[1, 2]])
        self.assert_one(text, (0, 1), (1, 1), (2, 1), (6, 1), (7, 1), (8, 1), (9, 1), told=[[2]])
        text = main("if mine", "tell 1", "else", "tell 2", "end")
        self.assert_one(text, *self.straight(6), (10, 1), mine=1, told=[[1]])
        self.assert_one(text, (0, 1), (1, 1), (2, 1), (7, 1), (8, 1), (9, 1), (10, 1), told=[[2]])

    def test_while_break_again(self):
        # Rows 0 to 2 set x; 3 to 5 the test; 6 to 10 the set; 11 the jump; 12 the end.
        text = main("set x mine", "while x", "set x - x 1", "end")
        test, body = [(3, 1), (4, 1), (5, 1)], [(row, 1) for row in range(6, 12)]
        for rounds in range(4):
            turns = [(0, 1), (1, 1), (2, 1)] + (test + body) * rounds + test + [(12, 1)]
            self.assert_one(text, *turns, mine=rounds, steps=[2 + 2 * rounds], ends=[("done", 6)])
        self.assert_one(main("while 1", "break", "tell 1", "end"), *self.straight(4), (9, 1), steps=[2])
        text = main("while = x 0", "set x 1", "again", "tell 1", "end")
        self.assert_one(text, *self.straight(9), (0, 1), (1, 1), (2, 1), (3, 1), (4, 1), (14, 1), steps=[4], told=[[]])

    def test_call_and_return(self):
        # Main's rows are 0 to 6, then come those of f.
        text = texts("def main", "call x f 4", "tell x", "end", "def f n", "return + n 1", "tell 9", "end")
        self.assert_one(text, (0, 1), (1, 1), (2, 1), *[(row, 2) for row in range(7, 13)], (16, 2),
                        (3, 1), (4, 1), (5, 1), (6, 1), told=[[5]], steps=[3], ends=[("done", 4)])

    def test_a_def_without_return(self):
        text = texts("def f", "end", "def main", "set x 9", "call x f", "tell x", "end")
        self.assert_one(text, *self.straight(4), (9, 2), (5, 1), (6, 1), (7, 1), (8, 1), told=[[0]], ends=[("done", 7)])

    def test_names_and_parameters_of_each_call(self):
        text = texts("def main", "set x 5", "call y f 1 2 3 4 5 6", "call y f 6 5 4 3 2 1", "tell x", "tell y", "end",
                     "def f a b c d e g", "tell x", "tell h", "set x 8", "set h 9", "tell a", "tell g", "set a b",
                     "return a", "end")
        self.assert_outcome(text, {"told": [[0, 0, 1, 6, 0, 0, 6, 1, 5, 5]]}, mines=[0])

    def test_stop(self):
        self.assert_one(main("stop", "tell 1"), (0, 1), (1, 1), ends=[("done", 2)], steps=[1], told=[[]])
        text = texts("def main", "call x f", "tell 1", "end", "def f", "stop", "end")
        self.assert_one(text, (0, 1), (1, 1), (6, 2), (7, 2), ends=[("done", 6)], steps=[2])

    def test_meet_and_join(self):
        self.assert_one(main("put 0 8", "meet", "tell 1"), *self.straight(9), boxes=[0], letters=[(3, [0], [8])])
        for word, given in (("sum", 6), ("most", 6), ("least", 6), ("ahead", 0)):
            text = main(f"join x {word} 6", "tell x")
            self.assert_one(text, *self.straight(6), letters=[(2, [6], [])], told=[[given]])

    def test_nought_and_outside(self):
        # The row by which the lane ends is the last turn.
        self.assert_one(main("tell div 1 0", "tell 1"), *self.straight(3), ends=[("nought", 2)], steps=[1], told=[[]])
        self.assert_one(main("tell box 1"), *self.straight(2), boxes=[0], ends=[("outside", 2)])
        self.assert_one(main("tell box -1"), *self.straight(2), boxes=[0], ends=[("outside", 2)])
        self.assert_one(main("put 1 2", "tell 1"), *self.straight(3), boxes=[0], ends=[("outside", 2)])
        self.assert_one(main("put -1 2"), *self.straight(3), boxes=[0], ends=[("outside", 2)])
        self.assert_one(main("put 0 2"), *self.straight(3), ends=[("outside", 2)])
        self.assert_one(main("put 9 rem 1 0"), *self.straight(4), boxes=[0], ends=[("nought", 2)])
        self.assert_one(main("join x sum div 1 0"), *self.straight(3), ends=[("nought", 2)], letters=[])

    def test_tired(self):
        text = main("tell 1", "tell 2")
        self.assert_one(text, (0, 1), most=0, ends=[("tired", 2)], steps=[0], told=[[]])
        self.assert_one(text, *self.straight(3), most=1, ends=[("tired", 3)], steps=[1], told=[[1]])
        self.assert_one(text, *self.straight(6), most=2, ends=[("done", 4)], steps=[2], told=[[1, 2]])
        self.assert_one(main("meet"), (0, 1), most=0, ends=[("tired", 2)], letters=[])
        self.assert_one(main(), (0, 1), most=0, ends=[("done", 2)])
        outcome = self.outcome(main("while 1", "end"), mines=[0])
        self.assert_fields(outcome, {"ends": [("tired", 2)], "steps": [1000]})
        self.assertEqual(len(outcome.trace), 4001)

    def test_deep(self):
        # The call's row is a turn; the def is not done.
        text = texts("def main", "call x f", "end", "def f", "call x f", "end")
        turns = [(0, 1), (1, 1)] + [(row, depth) for depth in range(2, 7) for row in (3, 4)]
        self.assert_one(text, *turns, ends=[("deep", 5)], steps=[6])
        text = texts("def main", "call x f 4", "end", "def f n", "call x f - n div n n", "end")
        self.assert_outcome(text, {"ends": [("nought", 5)], "steps": [6]}, mines=[0])
        text = texts("def main", "call x f 4", "tell x", "end",
                     "def f n", "if n", "call x f - n 1", "return + x 1", "end", "return 0", "end")
        self.assert_outcome(text, {"told": [[4]], "ends": [("done", 4)]}, mines=[0])

    def test_many_programs(self):
        for seed in range(200):
            program = read(program_text(seed))
            if is_let(program):
                for boxes, most in (([], 50), ([1, 0, 2, 3], 1000)):
                    outcome = self.assert_sound(program, [seed % 9 - 4], boxes, most, None)
                    self.assert_alone(outcome, program, [seed % 9 - 4], boxes, most)
                    self.assertEqual({mask for row, depth, mask in outcome.trace}, {1})


class TestLanesOfOneWay(RunCase):
    def test_one_to_eight_lanes(self):
        text = main("tell + lane lanes", "put lane mine", "tell box lane")
        for lanes in range(1, 9):
            mines = [10 * at - 35 for at in range(lanes)]
            outcome = self.outcome(text, mines=mines, boxes=[0] * lanes)
            self.assert_fields(outcome, {
                "told": [[lane + lanes, mines[lane]] for lane in range(lanes)], "boxes": mines, "letters": [],
                "clash": None, "ends": [("done", 5)] * lanes, "steps": [3] * lanes,
                "trace": [(row, 1, 2 ** lanes - 1) for row in range(14)],
            })

    def test_an_if_and_a_while_that_all_take_alike(self):
        text = main("set x 2", "while x", "set x - x 1", "if x", "tell lane", "else", "tell mine", "end", "end")
        outcome = self.outcome(text, mines=[5, 6, 7])
        self.assertEqual({mask for row, depth, mask in outcome.trace}, {7})
        self.assertEqual(outcome.told, [[0, 5], [1, 6], [2, 7]])

    def test_marked_ifs_whose_lanes_go_one_way_do_not_part(self):
        for mines in ([1, 1], [0, 0]):
            outcome = self.outcome(main("if mine", "tell 1", "else", "tell 2", "end"), mines=mines, picks=[1])
            self.assertEqual({mask for row, depth, mask in outcome.trace}, {3})

    def test_letters_of_all_lanes(self):
        text = main("put lane mine", "join x sum mine", "tell x", "meet", "tell box rem + lane 1 lanes",
                    "join y ahead mine", "tell y", "join z least mine", "tell z", "join z most mine", "tell z")
        held = [4, 5, 6]
        self.assert_outcome(text, {
            "letters": [(3, held, held), (5, [0] * 3, held)] + [(line, held, held) for line in (7, 9, 11)],
            "told": [[15, 5, 0, 4, 6], [15, 6, 4, 4, 6], [15, 4, 9, 4, 6]], "boxes": held,
        }, mines=[4, 5, 6], boxes=[0] * 3)

    def test_lanes_that_end_at_a_row_are_in_its_mask_and_in_none_behind(self):
        # Rows: tick, num 6, sign mine, op, tell.
        outcome = self.assert_turns(main("tell div 6 mine", "tell 1"), (0, 3, 1, 7), (4, 8, 1, 5), mines=[2, 0, 3])
        self.assert_fields(outcome, {"ends": [("done", 4), ("nought", 2), ("done", 4)], "told": [[3, 1], [], [2, 1]],
                                     "steps": [2, 1, 2]})
        outcome = self.assert_turns(main("put mine 1"), (0, 3, 1, 7), (4, 4, 1, 3), mines=[1, 0, -1], boxes=[0, 0])
        self.assert_fields(outcome, {"ends": [("done", 3), ("done", 3), ("outside", 2)], "boxes": [1, 1]})

    def test_letters_behind_lanes_that_have_ended(self):
        text = main("tell box mine", "join x sum mine", "tell x", "tell div 1 - mine 2", "join y ahead 1", "tell y")
        self.assert_outcome(text, {
            "letters": [(3, [0, None, 2, 1], [7, 8, 9]), (6, [1, None, None, 1], [7, 8, 9])],
            "told": [[7, 3, -1, 0], [], [9, 3], [8, 3, -1, 1]],
            "ends": [("done", 8), ("outside", 2), ("nought", 5), ("done", 8)],
        }, mines=[0, -1, 2, 1], boxes=[7, 8, 9])

    def test_meetings_within_calls_and_whiles(self):
        text = texts("def main", "set n 2", "while n", "call x total + n mine", "tell x", "set n - n 1", "end", "end",
                     "def total a", "join s sum a", "return s", "end")
        self.assert_outcome(text, {"letters": [(10, [12, 22], []), (10, [11, 21], [])], "told": [[34, 32]] * 2},
                            mines=[10, 20])

    def test_all_lanes_are_deep(self):
        text = texts("def main", "call x f", "end", "def f", "call x f", "end")
        self.assert_outcome(text, {"ends": [("deep", 5)] * 8}, mines=[0] * 8)

    def test_no_lane_is_left_for_a_meeting(self):
        self.assert_outcome(main("tell div 1 0", "meet"), {"letters": [], "ends": [("nought", 2)] * 3}, mines=[0] * 3)
        self.assert_outcome(main("tell 1", "meet"), {"letters": [], "ends": [("tired", 3)] * 3}, mines=[0] * 3, most=1)

    def test_as_many_meetings_as_steps(self):
        outcome = self.outcome(main("while 1", "meet", "end"), mines=[0] * 8, boxes=[2] * 32)
        self.assertEqual(len(outcome.letters), 500)
        self.assertEqual(outcome.ends, [("tired", 2)] * 8)


class TestRefusals(RunCase):
    def test_a_program_that_is_not_let(self):
        for text in (main("if lane", "meet", "end"), main("while mine", "join x sum 1", "end"),
                     texts("def main", "if lane", "call x f", "end", "end", "def f", "meet", "end"),
                     main("stop", "if lane", "meet", "end"),
                     texts("def main", "end", "def f", "if mine", "meet", "end", "end")):
            for mines in ([1], [0, 0], [0] * 8):
                for picks in (None, [], [1]):
                    self.assert_refused(run, read(text), mines, [0], 100, picks)
                self.assert_refused(run, read(text), mines, [0], 0)


class TestTheAskersOwn(RunCase):
    def test_what_is_told_stays_whatever_is_done_later(self):
        program = read(main("put lane 1", "join x sum 1", "tell x", "if lane", "tell 1", "end", "meet"))
        mines, boxes, picks = [0, 0], [4, 5], [1, 2]
        one = run(program, mines, boxes, 100, picks)
        kept = copy.deepcopy(fields_of(one, OUTCOME_FIELDS))
        other = run(program, mines, boxes, 100, picks)
        spoil(fields_of(other, OUTCOME_FIELDS))
        spoil([mines, boxes, picks])
        self.assertEqual(fields_of(one, OUTCOME_FIELDS), kept)
        self.assertEqual(fields_of(run(program, [0, 0], [4, 5], 100, [1, 2]), OUTCOME_FIELDS), kept)

    def test_lists_of_a_clash(self):
        program = read(main("put 0 1"))
        one, other = run(program, [0, 0], [0], 100), run(program, [0, 0], [0], 100)
        spoil(fields_of(one, OUTCOME_FIELDS))
        self.assert_clashed(other, (0, 0, 2, 1, 2), [])

    def test_programs_put_together_by_others(self):
        nothing = []
        program = [
            ("f", ["a"], [("tell", 5, ("name", "a"))], 4, 6),
            ("main", nothing, [("if", 2, ("lane",), nothing, nothing), ("call", 3, "x", "f", [("num", 8)])], 1, 9),
        ]
        outcome = self.assert_sound(program, [0, 0], [], 10, None)
        self.assert_fields(outcome, {"told": [[8], [8]], "ends": [("done", 9)] * 2})


if __name__ == "__main__":
    unittest.main()
