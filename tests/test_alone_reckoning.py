"""Promises [9] and [22], with [4]: the numbers that a lane alone reckons, and its ends as nought and outside."""

import unittest

from alone_cases import AloneCase
from program_texts import main, texts
from second_lane import LEAST, MOST


class TestNumbers(AloneCase):
    def assert_value(self, expression, meant, **handed):
        self.assert_told(main("tell " + expression), [meant], **handed)

    def test_numbers_and_names(self):
        for n in (0, 1, -1, 999999999, -999999999):
            self.assert_value(str(n), n)
        self.assert_value("x", 0)
        self.assert_told(main("set x 5", "tell x", "set y x", "set x 6", "tell x", "tell y"), [5, 6, 5])

    def test_lane_and_lanes(self):
        for lanes in range(1, 9):
            for lane in range(lanes):
                self.assert_value("lane", lane, lane=lane, lanes=lanes)
                self.assert_value("lanes", lanes, lane=lane, lanes=lanes)

    def test_mine_is_wrapped_first(self):
        for n in (0, 7, -7, LEAST, MOST):
            self.assert_value("mine", n, mine=n)
        for n, meant in ((MOST + 1, LEAST), (LEAST - 1, MOST), (4294967296, 0), (3 ** 125, -232069101),
                         (-3 ** 125, 232069101)):
            self.assertEqual((n - meant) % 4294967296, 0)
            self.assert_value("mine", meant, mine=n)
            self.assert_value("- mine 0", meant, mine=n)

    def test_boxes_are_wrapped_first(self):
        boxes = [MOST + 1, LEAST - 1, 4294967296 + 5, 3 ** 125, -3]
        self.assert_told(main("tell box 0", "tell box 1", "tell box 2", "tell box 3", "tell box 4"),
                         [LEAST, MOST, 5, -232069101, -3], boxes=boxes)

    def test_sum_difference_product(self):
        self.assert_value("+ 3 4", 7)
        self.assert_value("- 3 4", -1)
        self.assert_value("* 3 -4", -12)
        for word, one, other, meant in (
            ("+", MOST, 1, LEAST), ("+", LEAST, -1, MOST), ("+", MOST, MOST, -2), ("+", LEAST, LEAST, 0),
            ("-", LEAST, 1, MOST), ("-", MOST, -1, LEAST), ("-", 0, LEAST, LEAST), ("-", LEAST, MOST, 1),
            ("*", MOST, MOST, 1), ("*", LEAST, LEAST, 0), ("*", LEAST, -1, LEAST), ("*", 65536, 65536, 0),
            ("*", 46341, 46341, -2147479015),
        ):
            self.assert_value(f"{word} box 0 box 1", meant, boxes=[one, other])

    def test_div_and_rem(self):
        for one, other, div, rem in (
            (7, 2, 3, 1), (-7, 2, -4, 1), (7, -2, -4, -1), (-7, -2, 3, -1), (6, 3, 2, 0), (0, 5, 0, 0), (0, -5, 0, 0),
            (1, MOST, 0, 1), (-1, MOST, -1, MOST - 1), (LEAST, -1, LEAST, 0), (LEAST, 1, LEAST, 0),
            (MOST, LEAST, -1, -1), (LEAST, MOST, -2, MOST - 1),
        ):
            self.assert_value("div box 0 box 1", div, boxes=[one, other])
            self.assert_value("rem box 0 box 1", rem, boxes=[one, other])

    def test_less_and_equal(self):
        for one, other in ((1, 2), (2, 1), (2, 2), (LEAST, MOST), (MOST, LEAST), (-1, 0), (0, 0), (LEAST, LEAST)):
            self.assert_value("< box 0 box 1", 1 if one < other else 0, boxes=[one, other])
            self.assert_value("= box 0 box 1", 1 if one == other else 0, boxes=[one, other])

    def test_what_is_wrapped_goes_on_being_reckoned(self):
        self.assert_value("< + box 0 1 box 0", 1, boxes=[MOST])
        self.assert_value("div + box 0 1 2", -1073741824, boxes=[MOST])

    def test_parts_in_parts(self):
        self.assert_value("- * 3 4 + 1 < 0 1", 10)
        self.assert_value("+ + + + + + 1 1 1 1 1 1 1", 7)
        self.assert_value("- - 9 5 - 3 1", 2)
        self.assert_value("div - 0 - 0 9 * 2 2", 2)

    def test_boxes_in_boxes(self):
        boxes = [3, 0, 9, 1, 2]
        self.assert_value("box box box 0", 0, boxes=boxes)
        self.assert_value("box box box box box box 0", 0, boxes=[1, 2, 3, 4, 5, 0])
        story = self.story(main("tell box box box 0"), boxes=boxes)
        self.assertEqual(story.touches, [[("get", 0, 2), ("get", 3, 2), ("get", 1, 2)]])
        self.assert_value("+ box + 1 box 1 box * 2 box 3", 9, boxes=boxes)

    def test_parts_are_reckoned_from_left_to_right_ahead_of_the_whole(self):
        story = self.story(main("tell + - box 4 box 0 box box 1"), boxes=[0, 2, 5, 0, 0])
        self.assertEqual(story.touches, [[("get", 4, 2), ("get", 0, 2), ("get", 1, 2), ("get", 2, 2)]])

    def test_each_reading_is_a_touch_of_its_own(self):
        story = self.story(main("tell + box 0 box 0", "tell box 0"), boxes=[4])
        self.assertEqual(story.touches, [[("get", 0, 2), ("get", 0, 2), ("get", 0, 3)]])
        self.assertEqual(story.puts, [{}])

    def test_a_put_is_read_again(self):
        text = main("put 1 5", "tell box 1", "put box 1 7", "tell box 5", "put 1 + 1 box 1", "tell box 1")
        story = self.story(text, boxes=[0] * 6)
        self.assertEqual(story.told, [5, 7, 6])
        self.assertEqual(story.touches, [[
            ("put", 1, 2), ("get", 1, 3), ("get", 1, 4), ("put", 5, 4), ("get", 5, 5), ("get", 1, 6), ("put", 1, 6),
            ("get", 1, 7),
        ]])
        self.assertEqual(story.puts, [{1: 6, 5: 7}])

    def test_the_boxes_handed_in_are_not_put_to(self):
        boxes = [1, 2]
        self.story(main("put 0 9", "put 1 9"), boxes=boxes)
        self.assertEqual(boxes, [1, 2])


def in_each_place(expression):
    """A text for each place of an expression in a statement, with the line at which the expression is reckoned."""
    for statement in ("set x E", "put E 1", "put 0 E", "tell E", "if E\nend", "while E\nend", "join x sum E",
                      "if E\ntell 1\nelse\ntell 2\nend"):
        yield texts("def main", "tell 1", statement.replace("E", expression), "tell 2", "end"), 3
    for parts in ("E", "1 E", "E 1", "1 2 3 4 5 E"):
        text = texts("def main", "tell 1", "call x f " + parts.replace("E", expression), "tell 2", "end",
                     "def f" + " a b c d e g"[:2 * len(parts.split(" "))], "tell 3", "end")
        yield text, 3
    yield texts("def main", "tell 1", "call x f", "end", "def f", "return " + expression, "tell 3", "end"), 6


class TestNoughtAndOutside(AloneCase):
    def assert_end(self, text, word, line, **handed):
        story = self.story(text, **handed)
        self.assertEqual(story.end, (word, line), text)
        return story

    def test_nought_at_each_place(self):
        for expression in ("div 1 0", "rem 1 0", "div 0 0", "rem 0 x", "div box 0 box 1", "+ 1 rem mine 0",
                           "box div 1 0", "+ div 1 0 box 99"):
            for text, line in in_each_place(expression):
                story = self.assert_end(text, "nought", line, boxes=[5, 0, 0])
                self.assertEqual(story.told, [1])
                self.assertEqual(story.brought, [])
                self.assertEqual(story.lines, [2, 3] if line == 3 else [2, 3, line])
                touches = [("get", 0, line), ("get", 1, line)] if expression == "div box 0 box 1" else []
                self.assertEqual(story.touches, [touches])
                self.assertEqual(story.puts, [{}])

    def test_outside_at_each_place(self):
        for expression in ("box -1", "box 3", "box 999999999", "+ 1 box 3", "box box 0", "+ box 1 box 3",
                           "div 1 box 4", "+ box 3 div 1 0"):
            for text, line in in_each_place(expression):
                story = self.assert_end(text, "outside", line, boxes=[-1, 0, 0])
                self.assertEqual(story.told, [1])
                self.assertEqual(story.brought, [])
                self.assertEqual(story.lines, [2, 3] if line == 3 else [2, 3, line])
                touches = {"box box 0": [("get", 0, line)], "+ box 1 box 3": [("get", 1, line)]}
                self.assertEqual(story.touches, [touches.get(expression, [])])

    def test_each_place_with_a_number(self):
        for text, line in in_each_place("box 2"):
            story = self.story(text, boxes=[0, 0, 0])
            self.assertIn(("get", 2, line), story.touches[0])
            self.assertEqual(story.end is None, "join" in text)
            self.assertEqual(story.told[0], 1)

    def test_the_edges_of_the_places(self):
        for count in range(1, 33):
            boxes = list(range(100, 100 + count))
            for place in (0, count - 1):
                self.assert_told(main(f"tell box {place}"), [100 + place], boxes=boxes)
                story = self.story(main(f"put {place} 7"), boxes=boxes)
                self.assertEqual((story.end, story.puts), (("done", 3), [{place: 7}]))
            for place in (-1, count, count + 1, -count):
                for line in (f"tell box {place}", f"put {place} 7"):
                    story = self.assert_end(main(line), "outside", 2, boxes=boxes)
                    self.assertEqual((story.touches, story.puts, story.told, story.steps), ([[]], [{}], [], 1))

    def test_no_boxes_at_all(self):
        for place in ("0", "-1", "1", "lane", "mine"):
            for line in (f"tell box {place}", f"put {place} 7", f"set x box {place}"):
                story = self.assert_end(main(line), "outside", 2, boxes=[])
                self.assertEqual((story.touches, story.puts), ([[]], [{}]))
        self.assert_told(main("tell 1"), [1], boxes=[])

    def test_places_at_the_ends_of_the_range(self):
        for place in (LEAST, MOST):
            self.assert_end(main("tell box mine"), "outside", 2, boxes=[1, 2], mine=place)
            self.assert_end(main("put mine 1"), "outside", 2, boxes=[1, 2], mine=place)

    def test_a_puts_place_is_looked_at_behind_its_number(self):
        story = self.assert_end(main("put 9 div 1 0"), "nought", 2, boxes=[1])
        self.assertEqual(story.touches, [[]])
        story = self.assert_end(main("put 9 box 0"), "outside", 2, boxes=[1])
        self.assertEqual(story.touches, [[("get", 0, 2)]])
        self.assertEqual(story.puts, [{}])
        story = self.assert_end(main("put box 0 box 0"), "outside", 2, boxes=[-1])
        self.assertEqual(story.touches, [[("get", 0, 2), ("get", 0, 2)]])
        story = self.assert_end(main("put box 9 div 1 0"), "outside", 2, boxes=[1])
        self.assertEqual(story.touches, [[]])

    def test_the_first_fault_ends_the_lane(self):
        self.assert_end(main("tell + box 9 div 1 0"), "outside", 2, boxes=[1])
        self.assert_end(main("tell + div 1 0 box 9"), "nought", 2, boxes=[1])
        self.assert_end(main("tell div box 9 0"), "outside", 2, boxes=[1])
        self.assert_end(main("tell div 1 - box 0 box 0"), "nought", 2, boxes=[1])
        text = texts("def main", "call x f box 9 div 1 0", "end", "def f a b", "end")
        self.assert_end(text, "outside", 2, boxes=[1])
        text = texts("def main", "call x f div 1 0 box 9", "end", "def f a b", "end")
        self.assert_end(text, "nought", 2, boxes=[1])

    def test_touches_and_steps_ahead_of_the_end_stay(self):
        text = main("put 0 4", "tell box 0", "set x box 1", "tell + box 0 div box 1 x")
        story = self.assert_end(text, "nought", 5, boxes=[0, 0])
        self.assertEqual(story.told, [4])
        self.assertEqual(story.steps, 4)
        self.assertEqual(story.lines, [2, 3, 4, 5])
        self.assertEqual(story.touches, [[("put", 0, 2), ("get", 0, 3), ("get", 1, 4), ("get", 0, 5), ("get", 1, 5)]])
        self.assertEqual(story.puts, [{0: 4}])

    def test_a_name_keeps_its_number_where_a_set_fails(self):
        # Nothing behind the fault is done: the lane has ended.
        self.assert_story(main("set x 3", "set x div 1 0", "tell x"), {"told": [], "end": ("nought", 3), "steps": 2})

    def test_in_a_while_and_a_call_the_line_is_the_statements(self):
        text = main("set x 2", "while div 6 x", "set x - x 1", "end")
        self.assert_story(text, {"end": ("nought", 3), "lines": [2, 3, 4, 3, 4, 3]})
        text = texts("def f n", "if = n 0", "tell box n", "return box - n 1", "end", "call x f - n 1", "end",
                     "def main", "call x f 3", "end")
        self.assert_story(text, {"told": [8], "end": ("outside", 4), "lines": [9, 2, 6, 2, 6, 2, 6, 2, 3, 4],
                                 "touches": [[("get", 0, 3)]]}, boxes=[8])


if __name__ == "__main__":
    unittest.main()
