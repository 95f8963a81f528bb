"""Promises [9] and [22]: the ways that a lane alone takes, its steps, and where it ends as done, tired or deep."""

import unittest

from alone_cases import AloneCase
from program_texts import broad_text, main, program_text, texts

from widelanes.texts import read

EVERY = texts(
    "def main", "set x 2", "put 0 x", "tell box 0", "if x", "tell 1", "else", "tell 2", "end",
    "while x", "set x - x 1", "if x", "again", "end", "break", "end", "call y f 3", "tell y", "stop", "tell 9", "end",
    "def f n", "if n", "return * n n", "end", "end",
)
EVERY_LINES = [2, 3, 4, 5, 6, 10, 11, 12, 13, 10, 11, 12, 15, 17, 23, 24, 18, 19]


class TestStraightOn(AloneCase):
    def test_an_empty_main(self):
        self.assert_story(main(), {"told": [], "steps": 0, "end": ("done", 2), "brought": [], "touches": [[]],
                                   "puts": [{}], "lines": []})

    def test_the_end_of_main_has_the_line_of_its_end(self):
        self.assert_story(main("tell 1", "tell 2"), {"end": ("done", 4), "steps": 2, "lines": [2, 3]})
        text = texts("def f", "tell 1", "end", "def main", "tell 2", "end", "def g", "tell 3", "end")
        self.assert_story(text, {"end": ("done", 6), "told": [2], "lines": [5]})
        self.assert_story(main("if 1", "tell 1", "end"), {"end": ("done", 5), "lines": [2, 3]})

    def test_every_statement(self):
        self.assert_story(EVERY, {"told": [2, 1, 9], "steps": 18, "end": ("done", 19), "lines": EVERY_LINES,
                                  "touches": [[("put", 0, 3), ("get", 0, 4)]], "puts": [{0: 2}]}, boxes=[0])


class TestIf(AloneCase):
    def test_with_and_without_else(self):
        for number, meant in ((1, [1, 9]), (-1, [1, 9]), (2147483647, [1, 9]), (0, [9])):
            self.assert_story(main("if mine", "tell 1", "end", "tell 9"), {"told": meant}, mine=number)
        for number, meant in ((1, [1, 9]), (-5, [1, 9]), (0, [2, 9])):
            text = main("if mine", "tell 1", "else", "tell 2", "end", "tell 9")
            self.assert_story(text, {"told": meant}, mine=number)

    def test_an_if_is_one_step_and_else_and_end_are_none(self):
        self.assert_story(main("if 1", "else", "end"), {"lines": [2], "steps": 1})
        self.assert_story(main("if 0", "else", "end"), {"lines": [2], "steps": 1})
        self.assert_story(main("if 0", "tell 1", "else", "tell 2", "end"), {"lines": [2, 5], "told": [2]})

    def test_empty_bodies(self):
        for number in (0, 1):
            self.assert_told(main("if mine", "end", "tell 3"), [3], mine=number)
            self.assert_told(main("if mine", "else", "end", "tell 3"), [3], mine=number)
            self.assert_told(main("if mine", "tell 1", "else", "end", "tell 3"), [1, 3] if number else [3], mine=number)
            self.assert_told(main("if mine", "else", "tell 2", "end", "tell 3"), [3] if number else [2, 3], mine=number)

    def test_ifs_within_ifs(self):
        lines = [f"if = rem div mine {2 ** deep} 2 1" for deep in range(5)]
        for number in range(32):
            deep = 0
            while number >> deep & 1:
                deep += 1
            text = main(*lines, "tell 1", *[line for at in range(5) for line in ("else", f"tell {14 - at}", "end")])
            self.assert_told(text, [1] if deep == 5 else [10 + deep], mine=number)


class TestWhile(AloneCase):
    def test_rounds(self):
        text = main("set x mine", "while x", "tell x", "set x - x 1", "end", "tell 99")
        for count in (0, 1, 2, 5):
            told = list(range(count, 0, -1)) + [99]
            lines = [2] + [3, 4, 5] * count + [3, 7]
            self.assert_story(text, {"told": told, "lines": lines, "steps": len(lines), "end": ("done", 8)}, mine=count)

    def test_a_while_goes_on_for_any_number_but_0(self):
        text = main("set x mine", "while x", "set x + x 1", "tell x", "end")
        self.assert_story(text, {"told": [-2, -1, 0], "end": ("done", 7)}, mine=-3)

    def test_an_empty_body(self):
        self.assert_story(main("while 0", "end"), {"lines": [2], "end": ("done", 4)})
        self.assert_story(main("while 1", "end"), {"lines": [2] * 7, "end": ("tired", 2)}, most=7)

    def test_break(self):
        text = main("while 1", "set x + x 1", "tell x", "if = x mine", "break", "end", "end", "tell 99")
        self.assert_story(text, {"told": [1, 2, 3, 99], "lines": [2, 3, 4, 5] * 3 + [6, 9]}, mine=3)
        self.assert_story(main("while 1", "break", "tell 1", "end", "tell 2"), {"told": [2], "lines": [2, 3, 6]})

    def test_again(self):
        text = main("set x 4", "while x", "set x - x 1", "if rem x 2", "again", "end", "tell x", "end", "tell 99")
        self.assert_story(text, {"told": [2, 0, 99],
                                 "lines": [2, 3, 4, 5, 6, 3, 4, 5, 8, 3, 4, 5, 6, 3, 4, 5, 8, 3, 10]})

    def test_break_and_again_are_of_the_innermost_while(self):
        text = main("set x 3", "while x", "set x - x 1", "set y 3", "while y", "set y - y 1", "if = y x", "break",
                    "end", "tell + * 10 x y", "end", "tell 99", "end")
        self.assert_told(text, [99, 12, 99, 2, 1, 99])
        text = main("set x 2", "while x", "set x - x 1", "set y 2", "while y", "set y - y 1", "if = y x", "again",
                    "end", "tell + * 10 x y", "end", "tell 99", "end")
        self.assert_told(text, [10, 99, 1, 99])

    def test_break_and_again_behind_an_inner_while(self):
        text = main("while 1", "set y 1", "while y", "set y 0", "end", "break", "end", "tell 7")
        self.assert_told(text, [7])
        text = main("set x 2", "while x", "set x - x 1", "while 0", "end", "again", "tell 1", "end", "tell 7")
        self.assert_told(text, [7])
        text = main("while 1", "break", "while 1", "end", "end", "tell 7")
        self.assert_told(text, [7])

    def test_break_and_again_from_ifs_in_ifs(self):
        text = main("set x 5", "while x", "set x - x 1", "if < x 3", "if 1", "if = x 0", "tell 50", "break", "else",
                    "again", "end", "tell 60", "end", "end", "tell x", "end", "tell 99")
        self.assert_told(text, [4, 3, 50, 99])

    def test_whiles_within_whiles(self):
        text = main(*[f"while < {name} 2\nset {name} + {name} 1" for name in "abcde"], "tell 1",
                    *[line for name in "edcb" for line in ("end", f"set {name} 0")], "end", "tell 2")
        story = self.story(text, most=1000)
        self.assertEqual(story.told, [1] * 32 + [2])
        self.assertEqual(story.end[0], "done")

    def test_an_expression_of_a_while_reads_at_each_test(self):
        text = main("while box 0", "put 0 - box 0 1", "end")
        self.assert_story(text, {"touches": [[("get", 0, 2), ("get", 0, 3), ("put", 0, 3)] * 2 + [("get", 0, 2)]],
                                 "puts": [{0: 0}]}, boxes=[2])


class TestCalls(AloneCase):
    def test_none_to_six_expressions(self):
        names = ["a", "b", "c", "d", "e", "g"]
        for many in range(7):
            numbers = [str(10 + at) for at in range(many)]
            text = texts("def main", " ".join(["call x f"] + numbers), "tell x", "end",
                         " ".join(["def f"] + names[:many]), *["tell " + name for name in names], "return 7", "end")
            self.assert_story(text, {"told": list(range(10, 10 + many)) + [0] * (6 - many) + [7],
                                     "lines": [2, 6, 7, 8, 9, 10, 11, 12, 3]})

    def test_names_are_new_in_each_call(self):
        text = texts("def main", "set x 5", "set n 6", "call y f 1", "call y f 2", "tell x", "tell n", "end",
                     "def f n", "tell x", "tell n", "set x 8", "set n 9", "tell y", "end")
        self.assert_story(text, {"told": [0, 1, 0, 0, 2, 0, 5, 6]})

    def test_what_is_returned(self):
        text = texts("def main", "call x f 5", "tell x", "call x f 0", "tell x", "end",
                     "def f n", "if n", "return * n n", "tell 99", "end", "end")
        self.assert_story(text, {"told": [25, 0], "lines": [2, 8, 9, 3, 4, 8, 5]})

    def test_the_end_of_a_def_gives_0_over_an_earlier_number(self):
        text = texts("def main", "set x 4", "call x f", "tell x", "end", "def f", "end")
        self.assert_story(text, {"told": [0], "lines": [2, 3, 4]})

    def test_a_return_from_whiles_and_ifs(self):
        text = texts("def f n", "while 1", "set n + n 1", "while 1", "if 1", "return n", "end", "end", "end", "tell 9",
                     "end", "def main", "while < x 3", "call x f x", "tell x", "end", "end")
        self.assert_story(text, {"told": [1, 2, 3], "end": ("done", 17)})

    def test_a_call_in_a_while_goes_on_behind_it(self):
        text = texts("def main", "set x 2", "while x", "call y f x", "tell y", "set x - x 1", "end", "end",
                     "def f x", "while x", "set x 0", "break", "end", "return 30", "end")
        self.assert_story(text, {"told": [30, 30], "end": ("done", 8)})

    def test_the_expressions_are_reckoned_in_the_calling_def(self):
        text = texts("def main", "set a 1", "set b 2", "call a f b a", "tell a", "end",
                     "def f a b", "return - * 10 a b", "end")
        self.assert_story(text, {"told": [19]})

    def test_a_call_gives_its_name_behind_the_call_alone(self):
        text = texts("def main", "set x 3", "call x f x", "tell x", "end", "def f n", "tell x", "set x 50",
                     "return + n 1", "end")
        self.assert_story(text, {"told": [0, 4]})

    def test_a_name_called_like_a_def(self):
        text = texts("def main", "set f 2", "call f f f", "tell f", "end", "def f f", "return * f 5", "end")
        self.assert_story(text, {"told": [10]})

    def test_a_call_within_itself(self):
        text = texts("def main", "call x fact 5", "tell x", "end",
                     "def fact n", "if = n 1", "return 1", "end", "call x fact - n 1", "return * n x", "end")
        self.assert_story(text, {"told": [120], "end": ("done", 4)})

    def test_defs_that_call_one_another(self):
        text = texts("def even n", "if n", "call x odd - n 1", "return x", "end", "return 1", "end",
                     "def main", "call x even mine", "tell x", "end",
                     "def odd n", "if n", "call x even - n 1", "return x", "end", "return 0", "end")
        for n in range(5):
            self.assert_story(text, {"told": [1 - n % 2], "end": ("done", 11)}, mine=n)
        for n in (5, 6, 7):
            self.assert_story(text, {"told": [], "end": ("deep", 3)}, mine=n)


class TestDeep(AloneCase):
    def chain(self, deep, last):
        """Main calls d, that e and so on: the last one of so many defs is that many and one deep."""
        names = "defghi"[:deep]
        lines = ["def main", "call x d", "tell x", "end"]
        for name, called in zip(names, names[1:] + " "):
            lines += ["def " + name, last if called == " " else "call x " + called, "return + x 1", "end"]
        return texts(*lines)

    def test_six_deep_is_done_and_seven_is_not(self):
        for deep in range(1, 6):
            self.assert_story(self.chain(deep, "set x 0"), {"told": [deep], "end": ("done", 4)})
        story = self.story(self.chain(6, "set x 0"))
        self.assertEqual((story.told, story.end, story.lines), ([], ("deep", 22), [2, 6, 10, 14, 18, 22]))

    def test_a_def_called_from_six_deep_is_not_done(self):
        text = texts("def main", "call x f 1", "end", "def f n", "tell n", "call x f + n 1", "tell 99", "end")
        self.assert_story(text, {"told": [1, 2, 3, 4, 5], "end": ("deep", 6), "lines": [2] + [5, 6] * 5, "steps": 11})

    def test_the_end_comes_behind_the_reckoning_of_the_expressions(self):
        text = texts("def main", "call x f 0", "end", "def f n", "call x f + n box n", "end")
        self.assert_story(text, {"end": ("deep", 5), "touches": [[("get", at, 5) for at in range(5)]]}, boxes=[1] * 6)
        self.assert_story(text, {"end": ("outside", 5), "touches": [[("get", at, 5) for at in range(4)]]},
                          boxes=[1] * 4)
        text = texts("def main", "call x f 4", "end", "def f n", "call x f - n div n n", "end")
        self.assert_story(text, {"end": ("nought", 5)})
        text = texts("def main", "call x f 4", "end", "def f n", "call x f - n < 0 box n", "end")
        self.assert_story(text, {"end": ("deep", 5), "touches": [[("get", at, 5) for at in (4, 3, 2, 1, 0)]]},
                          boxes=[1] * 5)

    def test_a_call_that_is_come_back_from_counts_no_more(self):
        text = texts("def main", "set x 20", "while x", "call y f", "set x - x 1", "end", "tell 1", "end",
                     "def f", "call x g", "call x g", "end", "def g", "end")
        self.assert_story(text, {"told": [1], "end": ("done", 8)})

    def test_tired_goes_ahead_of_deep(self):
        text = texts("def main", "call x f", "end", "def f", "call x f", "end")
        self.assert_story(text, {"end": ("tired", 5), "steps": 5}, most=5)
        self.assert_story(text, {"end": ("deep", 5), "steps": 6}, most=6)


class TestStop(AloneCase):
    def test_in_main(self):
        self.assert_story(main("tell 1", "stop", "tell 2"), {"told": [1], "end": ("done", 3), "lines": [2, 3]})

    def test_in_blocks(self):
        self.assert_story(main("while 1", "if 1", "stop", "end", "end"), {"end": ("done", 4), "lines": [2, 3, 4]})

    def test_in_a_def_it_ends_the_lane(self):
        text = texts("def main", "call x f", "tell 2", "end", "def f", "call x g", "tell 3", "end",
                     "def g", "stop", "tell 4", "end")
        self.assert_story(text, {"told": [], "end": ("done", 10), "lines": [2, 6, 10]})


class TestTired(AloneCase):
    def test_with_0_steps(self):
        for line in ("set x 1", "put 0 1", "tell 1", "if 1\nend", "while 0\nend", "while 1\nbreak\nend", "call x f",
                     "stop", "join x sum 1", "meet", "set x div 1 0", "put 9 1"):
            text = texts("def main", line, "end", "def f", "end")
            self.assert_story(text, {"told": [], "steps": 0, "end": ("tired", 2), "brought": [], "touches": [[]],
                                     "puts": [{}], "lines": []}, most=0, boxes=[1])

    def test_0_steps_are_enough_for_an_empty_main(self):
        self.assert_story(main(), {"end": ("done", 2), "steps": 0}, most=0)

    def test_at_each_statement(self):
        for most, line in enumerate(EVERY_LINES):
            self.assert_story(EVERY, {"end": ("tired", line), "steps": most, "lines": EVERY_LINES[:most]},
                              most=most, boxes=[0])
        self.assert_story(EVERY, {"end": ("done", 19), "steps": 18}, most=18, boxes=[0])
        self.assert_story(EVERY, {"end": ("done", 19), "steps": 18}, most=19, boxes=[0])

    def test_at_a_return_and_a_break(self):
        text = texts("def main", "call x f", "end", "def f", "return box 0", "end")
        self.assert_story(text, {"end": ("tired", 5), "touches": [[]]}, most=1, boxes=[1])
        self.assert_story(text, {"end": ("done", 3), "touches": [[("get", 0, 5)]]}, most=2, boxes=[1])
        text = main("while 1", "break", "end")
        self.assert_story(text, {"end": ("tired", 3)}, most=1)
        self.assert_story(text, {"end": ("done", 5)}, most=2)

    def test_as_many_as_are_needed_and_one_fewer(self):
        text = main("set x 3", "while x", "set x - x 1", "end")
        self.assert_story(text, {"end": ("done", 6), "steps": 8}, most=8)
        self.assert_story(text, {"end": ("tired", 3), "steps": 7}, most=7)
        self.assert_story(text, {"end": ("tired", 4), "steps": 6}, most=6)

    def test_the_ends_of_blocks_and_defs_are_no_steps(self):
        text = texts("def main", "if 1", "call x f", "end", "end", "def f", "while 0", "end", "end")
        self.assert_story(text, {"end": ("done", 5), "steps": 3}, most=3)

    def test_a_step_is_counted_ahead_of_all_else_of_it(self):
        self.assert_story(main("tell 1", "tell div 1 0"), {"end": ("nought", 3), "steps": 2, "lines": [2, 3]}, most=2)
        self.assert_story(main("tell 1", "tell div 1 0"), {"end": ("tired", 3), "steps": 1, "lines": [2]}, most=1)

    def test_a_thousand_steps(self):
        self.assert_story(main("while 1", "end"), {"end": ("tired", 2), "steps": 1000, "lines": [2] * 1000}, most=1000)
        text = main("while 1", "tell box 0", "put 0 + box 0 1", "end")
        story = self.story(text, boxes=[0])
        self.assertEqual((story.end, story.told), (("tired", 3), list(range(333))))


class TestMany(AloneCase):
    def test_programs_of_all_kinds(self):
        for seed in range(300):
            program = read(program_text(seed, own=0.2))
            for most, boxes in ((1000, [3, 1, 0, 2]), (40, []), (100, list(range(32)))):
                self.assert_sound(program, seed % 5, 5, seed % 7 - 3, boxes, most, [])

    def test_long_programs(self):
        for seed in range(20):
            program = read(program_text(seed, most_lines=195))
            self.assert_sound(program, 1, 2, 1, [1, 0, 2, 1], 1000, [])

    def test_a_broad_program(self):
        program = read(broad_text(200, 20000))
        story = self.assert_sound(program, 0, 1, 0, [0] * 32, 1000, [])
        self.assertEqual(story.end[0], "outside")

    def test_programs_put_together_by_others(self):
        nothing, same = [], [("tell", 5, ("name", "a"))]
        program = [
            ("f", ["a"], same, 4, 6),
            ("main", nothing, [("if", 2, ("num", 0), nothing, nothing), ("call", 3, "x", "f", [("num", 8)])], 1, 9),
        ]
        story = self.assert_sound(program, 0, 1, 0, [], 10, [])
        self.assertEqual((story.told, story.lines, story.end), ([8], [2, 3, 5], ("done", 9)))

    def test_many_calls_without_end(self):
        text = texts("def main", "while 1", "call x f", "end", "end", "def f", "call x g", "end", "def g", "end")
        self.assert_story(text, {"end": ("tired", 3), "steps": 1000})


if __name__ == "__main__":
    unittest.main()
