"""Promises [26] and [27], with [3], [9] and [18]: groups that are parted and meet again, and what picks do."""

import unittest

from program_texts import main, texts
from run_cases import RunCase

SIXTY = 10 ** 59


class TestIf(RunCase):
    def test_without_else(self):
        # 0-2 the if, 3-5 its yes, 6-9 what stands behind.
        text = main("if lane", "tell 1", "end", "tell 2")
        for picks in (None, [], [0], [1]):
            outcome = self.assert_turns(text, (0, 2, 1, 15), (3, 5, 1, 14), (6, 9, 1, 15), mines=[0] * 4, picks=picks)
            self.assertEqual(outcome.told, [[2], [1, 2], [1, 2], [1, 2]])

    def test_with_else(self):
        # 0-4 the if, 5-8 its yes with the jump, 9-11 its no, 12 main's end.
        text = main("if rem lane 2", "tell 1", "else", "tell 2", "end")
        head, yes, no, rest = (0, 4, 1, 31), (5, 8, 1, 10), (9, 11, 1, 21), (12, 12, 1, 31)
        for picks in (None, [], [0], [2], [-2], [-4], [2 * SIXTY]):
            self.assert_turns(text, head, yes, no, rest, mines=[0] * 5, picks=picks)
        for picks in ([1], [-1], [3], [-3], [SIXTY + 1], [-SIXTY - 1]):
            outcome = self.assert_turns(text, head, no, yes, rest, mines=[0] * 5, picks=picks)
            self.assertEqual(outcome.told, [[2], [1], [2], [1], [2]])

    def test_a_split_both_of_whose_ways_lead_to_one_row(self):
        # The parting uses a pick, though nothing is seen of it but that.
        text = main("if lane", "end", "if lane", "tell 1", "else", "tell 2", "end")
        head, yes, no, rest = (0, 5, 1, 3), (6, 9, 1, 2), (10, 12, 1, 1), (13, 13, 1, 3)
        self.assert_turns(text, head, yes, no, rest, picks=[1, 0])
        self.assert_turns(text, head, no, yes, rest, picks=[0, 1])
        self.assert_turns(text, head, yes, no, rest)

    def test_an_else_without_statements(self):
        text = main("if lane", "else", "end", "tell 1")
        self.assert_turns(text, (0, 2, 1, 3), (3, 3, 1, 2), (4, 7, 1, 3))
        text = main("if lane", "else", "tell 2", "end", "tell 1")
        self.assert_turns(text, (0, 2, 1, 3), (3, 3, 1, 2), (4, 6, 1, 1), (7, 10, 1, 3))
        self.assert_turns(text, (0, 2, 1, 3), (4, 6, 1, 1), (3, 3, 1, 2), (7, 10, 1, 3), picks=[1])

    def test_parted_within_parted(self):
        text = main("if rem lane 2", "if < lane 2", "tell 1", "else", "tell 2", "end", "else", "if lane", "tell 3",
                    "end", "end", "tell 4")
        # 0-4 the outer if; 5-9 the inner one of its yes, 10-13 and 14-16 its ways, 17 the jump of the outer one;
        # 18-20 the if of its no, 21-23 its yes; 24 on what stands behind.
        outcome = self.assert_turns(
            text, (0, 4, 1, 15), (5, 9, 1, 10), (10, 13, 1, 2), (14, 16, 1, 8), (17, 17, 1, 10),
            (18, 20, 1, 5), (21, 23, 1, 4), (24, 27, 1, 15), mines=[0] * 4)
        self.assertEqual(outcome.told, [[4], [1, 4], [3, 4], [2, 4]])
        self.assert_turns(
            text, (0, 4, 1, 15), (18, 20, 1, 5), (21, 23, 1, 4), (5, 9, 1, 10), (14, 16, 1, 8), (10, 13, 1, 2),
            (17, 17, 1, 10), (24, 27, 1, 15), mines=[0] * 4, picks=[1])
        self.assert_turns(
            text, (0, 4, 1, 15), (18, 20, 1, 5), (21, 23, 1, 4), (5, 9, 1, 10), (10, 13, 1, 2), (14, 16, 1, 8),
            (17, 17, 1, 10), (24, 27, 1, 15), mines=[0] * 4, picks=[1, 1, 0])

    def test_three_within_one_another(self):
        lines = [f"if rem div lane {2 ** deep} 2" for deep in range(3)]
        text = main(*lines, "tell 7", "else", "tell 3", "end", "else", "tell 1", "end", "else", "tell 0", "end",
                    "tell 9")
        outcome = self.outcome(text, mines=[0] * 8)
        self.assertEqual(outcome.told, [[n, 9] for n in (0, 1, 0, 3, 0, 1, 0, 7)])
        self.assertEqual([mask for row, depth, mask in outcome.trace][-4:], [255] * 4)

    def test_eight_lanes_each_by_itself(self):
        lines = [f"if = lane {lane}\ntell {10 + lane}\nend" for lane in range(8)]
        outcome = self.outcome(main(*lines), mines=[0] * 8)
        self.assertEqual(outcome.told, [[10 + lane] for lane in range(8)])
        self.assertEqual({mask for row, depth, mask in outcome.trace}, {1, 2, 4, 8, 16, 32, 64, 128, 255})


class TestWhile(RunCase):
    def test_lanes_leave_by_the_test_in_unlike_rounds(self):
        # 0-2 set; 3-5 the test; 6-10 the set, 11 the jump; 12 main's end.
        text = main("set x mine", "while x", "set x - x 1", "end")
        for picks in (None, [1]):
            outcome = self.assert_turns(
                text, (0, 5, 1, 7), (6, 11, 1, 6), (3, 5, 1, 6), (6, 11, 1, 4), (3, 5, 1, 4), (12, 12, 1, 7),
                mines=[0, 1, 2], picks=picks)
            self.assertEqual(outcome.steps, [2, 4, 6])

    def test_lanes_leave_by_break(self):
        # 0-2 while; 3-7 set x; 8-12 if; 13, 14 break; 15 the jump; 16-18 tell x; 19 main's end.
        text = main("while 1", "set x + x 1", "if = x mine", "break", "end", "end", "tell x")
        outcome = self.outcome(text, mines=[2, 1, 3])
        self.assertEqual(outcome.told, [[2], [1], [3]])
        self.assert_turns(
            text, (0, 12, 1, 7), (13, 14, 1, 2), (15, 15, 1, 5), (0, 12, 1, 5), (13, 14, 1, 1), (15, 15, 1, 4),
            (0, 12, 1, 4), (13, 14, 1, 4), (16, 19, 1, 7), mines=[2, 1, 3])
        self.assert_turns(
            text, (0, 12, 1, 7), (15, 15, 1, 5), (0, 12, 1, 5), (15, 15, 1, 4), (0, 12, 1, 4), (13, 14, 1, 4),
            (13, 14, 1, 1), (13, 14, 1, 2), (16, 19, 1, 7), mines=[2, 1, 3], picks=[1])

    def test_again(self):
        # 0-2 set; 3-5 while; 6-10 set; 11-15 if; 16, 17 again; 18-20 tell; 21 the jump; 22 main's end.
        text = main("set x 2", "while x", "set x - x 1", "if = x lane", "again", "end", "tell x", "end")
        outcome = self.assert_turns(
            text, (0, 15, 1, 7), (16, 17, 1, 2), (18, 21, 1, 5), (3, 15, 1, 7), (16, 17, 1, 1), (18, 21, 1, 6),
            (3, 5, 1, 7), (22, 22, 1, 7), mines=[0] * 3)
        self.assertEqual(outcome.told, [[1], [0], [1, 0]])

    def test_lanes_leave_by_return(self):
        # Main 0-6; f: 7-9 while, 10-14 set, 15-19 if, 20-25 return, 26 the jump, 27 its end.
        text = texts("def main", "call x f mine", "tell x", "end",
                     "def f n", "while 1", "set k + k 1", "if = k n", "return * 10 k", "end", "end", "end")
        outcome = self.outcome(text, mines=[2, 1, 2])
        self.assertEqual(outcome.told, [[20], [10], [20]])
        self.assert_turns(
            text, (0, 2, 1, 7), (7, 19, 2, 7), (20, 25, 2, 2), (26, 26, 2, 5), (7, 19, 2, 5), (20, 25, 2, 5),
            (27, 27, 2, 7), (3, 6, 1, 7), mines=[2, 1, 2])

    def test_whiles_in_whiles(self):
        text = main("set i mine", "while i", "set j lane", "while j", "set j - j 1", "tell + * 10 i j", "end",
                    "set i - i 1", "end", "tell 99")
        for picks in (None, [1], [0, 1], [1, 1, 0]):
            outcome = self.outcome(text, mines=[2, 1, 2, 0], picks=picks)
            self.assertEqual(outcome.told, [[99], [10, 99], [21, 20, 11, 10, 99], [99]])
            self.assertEqual([mask for row, depth, mask in outcome.trace][-4:], [15] * 4)

    def test_a_lane_that_is_tired_in_a_while(self):
        text = main("set x mine", "while x", "set x - x 1", "end", "join y sum 1", "tell y")
        for picks in (None, [1]):
            outcome = self.outcome(text, mines=[0, 9, 3], most=10, picks=picks)
            self.assert_fields(outcome, {
                "letters": [(6, [1, None, 1], [])], "told": [[2], [], [2]],
                "ends": [("done", 8), ("tired", 4), ("done", 8)], "steps": [4, 10, 10],
            })


class TestCalls(RunCase):
    def test_a_call_within_a_parted_group(self):
        # Main: 0-2 if, 3-5 call in yes, 6 jump, 7-9 call in no, 10-12 tell, 13 its end; f: 14-19 return, 20 its end.
        text = texts("def main", "if lane", "call x f 10", "else", "call x f 20", "end", "tell x", "end",
                     "def f n", "return + n lane", "end")
        outcome = self.assert_turns(
            text, (0, 2, 1, 7), (3, 5, 1, 6), (14, 20, 2, 6), (6, 6, 1, 6), (7, 9, 1, 1), (14, 20, 2, 1),
            (10, 13, 1, 7), mines=[0] * 3)
        self.assertEqual(outcome.told, [[20], [11], [12]])
        self.assert_turns(
            text, (0, 2, 1, 7), (7, 9, 1, 1), (14, 20, 2, 1), (3, 5, 1, 6), (14, 20, 2, 6), (6, 6, 1, 6),
            (10, 13, 1, 7), mines=[0] * 3, picks=[5])

    def test_a_def_that_parts_lanes_brings_them_together_at_its_end(self):
        # Main 0-6; f: 7-9 if, 10-13 return, 14-17 return, 18 its end.
        text = texts("def main", "call x f mine", "tell x", "end",
                     "def f n", "if n", "return 5", "end", "return 6", "end")
        outcome = self.assert_turns(
            text, (0, 2, 1, 3), (7, 9, 2, 3), (10, 13, 2, 1), (14, 17, 2, 2), (18, 18, 2, 3), (3, 6, 1, 3),
            mines=[1, 0])
        self.assertEqual(outcome.told, [[5], [6]])

    def test_a_call_within_itself_at_unlike_depths(self):
        # A lane that comes to the meeting row in a deeper call goes on: the depth is another one.
        text = texts("def main", "call x f mine", "tell x", "end",
                     "def f n", "if n", "call x f - n 1", "end", "return + x 1", "end")
        for picks in (None, [1], [1, 0]):
            outcome = self.outcome(text, mines=[0, 3, 1, 4], picks=picks)
            self.assertEqual(outcome.told, [[1], [4], [2], [5]])
            depths = [depth for row, depth, mask in outcome.trace if row == 15]
            self.assertEqual(len(depths), len(set(depths)))
        # 7-9 if, 10-14 the call, 15-21 the return: at each depth all lanes that are there do it together.
        self.assert_turns(
            text, (0, 2, 1, 7), (7, 9, 2, 7), (10, 14, 2, 6), (7, 9, 3, 6), (10, 14, 3, 4), (7, 9, 4, 4),
            (15, 21, 4, 4), (15, 21, 3, 6), (15, 21, 2, 7), (3, 6, 1, 7), mines=[0, 1, 2])

    def test_some_lanes_are_deep(self):
        text = texts("def main", "call x f mine", "tell x", "join y sum 1", "tell y", "end",
                     "def f n", "if n", "call x f - n 1", "end", "return + x 1", "end")
        for picks in (None, [1]):
            outcome = self.outcome(text, mines=[9, 4, 5, 0], picks=picks)
            self.assert_fields(outcome, {
                "ends": [("deep", 9), ("done", 6), ("deep", 9), ("done", 6)], "told": [[], [5, 2], [], [1, 2]],
                "letters": [(4, [None, 1, None, 1], [])],
            })

    def test_calls_in_a_while_that_lanes_leave_in_unlike_rounds(self):
        text = texts("def main", "set i mine", "while i", "call s f s i", "set i - i 1", "end", "tell s", "end",
                     "def f a b", "if rem b 2", "return + a b", "end", "return - a b", "end")
        for picks in (None, [1], [0, 0, 1]):
            self.assert_outcome(text, {"told": [[0], [1], [-1], [2], [-2]]}, mines=[0, 1, 2, 3, 4], picks=picks)


class TestEnds(RunCase):
    def test_all_lanes_of_a_parted_group_end(self):
        # 0-2 if, 3-4 stop, 5 on the rest.
        text = main("if lane", "stop", "end", "tell 1")
        outcome = self.assert_turns(text, (0, 2, 1, 7), (3, 4, 1, 6), (5, 8, 1, 1), mines=[0] * 3)
        self.assert_fields(outcome, {"ends": [("done", 6), ("done", 3), ("done", 3)], "told": [[1], [], []]})

    def test_some_lanes_of_a_parted_group_end(self):
        # 0-2 if, 3-7 tell div 6 mine, 8 on the rest.
        text = main("if lane", "tell div 6 mine", "end", "meet", "tell 1")
        outcome = self.assert_turns(
            text, (0, 2, 1, 15), (3, 6, 1, 14), (7, 7, 1, 10), (8, 13, 1, 11), mines=[0, 3, 0, 2])
        self.assert_fields(outcome, {
            "letters": [(5, [0, 0, None, 0], [])], "told": [[1], [2, 1], [], [3, 1]],
            "ends": [("done", 7), ("done", 7), ("nought", 3), ("done", 7)],
        })

    def test_both_parted_groups_end(self):
        text = main("if lane", "stop", "else", "tell box 9", "end", "tell 1")
        outcome = self.assert_turns(text, (0, 2, 1, 3), (3, 4, 1, 2), (6, 8, 1, 1))
        self.assert_fields(outcome, {"ends": [("outside", 5), ("done", 3)], "told": [[], []], "letters": []})

    def test_lanes_that_end_in_a_call_of_a_parted_group(self):
        text = texts("def main", "if lane", "call x f", "end", "meet", "tell 1", "end",
                     "def f", "tell div 1 mine", "end")
        self.assert_outcome(text, {
            "ends": [("done", 7), ("nought", 9), ("done", 7)], "told": [[1], [], [1, 1]],
            "letters": [(5, [0, None, 0], [])],
        }, mines=[0, 0, 1])

    def test_lanes_that_end_as_tired_in_unlike_lines(self):
        text = main("if lane", "tell 1", "tell 2", "tell 3", "end", "tell 4", "tell 5")
        self.assert_outcome(text, {
            "ends": [("done", 9), ("tired", 7)], "told": [[4, 5], [1, 2, 3]], "steps": [3, 4],
        }, most=4)


class TestPicks(RunCase):
    def tops(self, picks, partings=6):
        """For each of so many partings: does the lane that goes on to the next row lie on top."""
        text = main(*["if lane\ntell 1\nelse\ntell 2\nend"] * partings)
        trace = self.outcome(text, picks=picks).trace
        tops = []
        for at, (row, depth, mask) in enumerate(trace):
            if row % 10 == 2:
                tops.append(trace[at + 1][2] == 2)
        return tops

    def test_no_picks(self):
        self.assertEqual(self.tops(None), [True] * 6)
        self.assertEqual(self.tops([]), [True] * 6)

    def test_one_for_each_parting_from_the_first_again(self):
        self.assertEqual(self.tops([0]), [True] * 6)
        self.assertEqual(self.tops([1]), [False] * 6)
        self.assertEqual(self.tops([0, 1]), [True, False] * 3)
        self.assertEqual(self.tops([1, 0, 0]), [False, True, True] * 2)
        self.assertEqual(self.tops([1, 1, 0, 1]), [False, False, True, False, False, False])
        self.assertEqual(self.tops([0, 1, 0, 1, 1, 0, 1, 1]), [True, False, True, False, False, True])

    def test_even_and_odd(self):
        picks = [2, -2, 3, -3, SIXTY, SIXTY - 1, -SIXTY, 1 - SIXTY, 2147483647, -2147483648]
        self.assertEqual(self.tops(picks, 10), [pick % 2 == 0 for pick in picks])

    def test_a_split_that_does_not_part_uses_none(self):
        text = main("if lanes", "end", "if mine", "tell 5", "end", "if lane", "tell 1", "else", "tell 2", "end",
                    "if - lane 9", "end", "if lane", "tell 3", "else", "tell 4", "end")
        outcome = self.outcome(text, mines=[1, 1], picks=[1, 0])
        told = [(row, mask) for row, depth, mask in outcome.trace if mask != 3]
        self.assertEqual([mask for row, mask in told], [1] * 3 + [2] * 4 + [2] * 4 + [1] * 3)

    def test_partings_of_parted_groups_use_them_in_the_order_of_the_turns(self):
        text = main("if rem lane 2", "if < lane 2", "tell 1", "else", "tell 2", "end", "else", "if < lane 2", "tell 3",
                    "else", "tell 4", "end", "end")
        for picks, masks in (
            ([0, 0, 0], [2, 8, 1, 4]), ([0, 0, 1], [2, 8, 4, 1]), ([0, 1, 0], [8, 2, 1, 4]),
            ([1, 0, 0], [1, 4, 2, 8]), ([1, 1, 0], [4, 1, 2, 8]), ([1, 0, 1], [1, 4, 8, 2]),
        ):
            outcome = self.outcome(text, mines=[0] * 4, picks=picks)
            order = [mask for row, depth, mask in outcome.trace if mask in (1, 2, 4, 8)]
            self.assertEqual(list(dict.fromkeys(order)), masks)

    def test_picks_change_nothing_but_the_turns(self):
        text = main("set x mine", "while x", "if rem x 2", "put lane x", "else", "tell x", "end", "set x - x 1", "end",
                    "join y sum box lane", "tell y")
        first = self.outcome(text, mines=[3, 0, 5, 2], boxes=[0] * 4)
        for picks in ([1], [0, 1], [1, 1, 0], [7, -2, 5]):
            other = self.outcome(text, mines=[3, 0, 5, 2], boxes=[0] * 4, picks=picks)
            for name in ("letters", "clash", "ends", "told", "steps", "boxes"):
                self.assertEqual(getattr(other, name), getattr(first, name))
            self.assertEqual(sorted(other.trace), sorted(first.trace))


if __name__ == "__main__":
    unittest.main()
