"""Promises [6], [7] and [8], with [2]: a program's text, its refusals, and the program that is told of it."""

import copy
import unittest

from program_texts import broad_text, main, program_text, texts

from widelanes.errors import LaneError, NoLine, NoName, NoNest, TooMuch
from widelanes.texts import read, shown

REFUSALS = (TooMuch, NoLine, NoNest, NoName)
KEPT = """def set put tell if else while end break again call return stop join meet lane lanes mine box div rem
sum most least ahead""".split()
X, Y, ONE, TWO = ("name", "x"), ("name", "y"), ("num", 1), ("num", 2)
DEEPEST = "box " * 6 + "x"
TOO_DEEP = "box " * 7 + "x"


class TextsCase(unittest.TestCase):
    def assert_refused(self, refusal, text):
        with self.assertRaises(LaneError, msg=repr(text)) as taken:
            read(text)
        self.assertIs(type(taken.exception), refusal, repr(text))

    def assert_read(self, text):
        program = read(text)
        before = copy.deepcopy(program)
        self.assertEqual(shown(program), text)
        self.assertEqual(program, before)
        return program

    def assert_line(self, line, statement):
        # The line stands third, behind one that is there to be counted.
        text = texts("def main", "stop", line, "end", "def f", "end")
        program = self.assert_read(text)
        self.assertEqual(program, [("main", [], [("stop", 2), statement], 1, 4), ("f", [], [], 5, 6)])
        self.assert_kinds(program)

    def assert_kinds(self, program):
        self.assertIs(type(program), list)
        for each in program:
            self.assertEqual([type(part) for part in each], [str, list, list, int, int])
            self.assertIs(type(each), tuple)
            self.assert_body(each[2])

    def assert_body(self, body):
        self.assertIs(type(body), list)
        for statement in body:
            self.assertIs(type(statement), tuple)
            self.assertIs(type(statement[1]), int)
            if statement[0] == "if":
                self.assert_body(statement[3])
                if statement[4] is not None:
                    self.assert_body(statement[4])
            elif statement[0] == "while":
                self.assert_body(statement[3])
            elif statement[0] == "call":
                self.assertIs(type(statement[4]), list)
                self.assertTrue(all(type(part) is tuple for part in statement[4]))


class TestLines(TextsCase):
    def test_set(self):
        self.assert_line("set x 1", ("set", 3, "x", ONE))
        self.assert_line("set x + x y", ("set", 3, "x", ("+", X, Y)))
        for line in ("set", "set x", "set 1", "set 1 1", "set x 1 2", "set x y z", "set set 1", "set x set",
                     "set lane 1", "set X 1", "set x y 1", f"set x {TOO_DEEP}"):
            self.assert_refused(NoLine, main(line))
        self.assert_read(main(f"set x {DEEPEST}"))

    def test_put(self):
        self.assert_line("put 1 x", ("put", 3, ONE, X))
        self.assert_line("put + lane 1 box 2", ("put", 3, ("+", ("lane",), ONE), ("box", TWO)))
        for line in ("put", "put 1", "put 1 2 3", "put + 1 2", "put box 1", "put 1 put",
                     f"put {TOO_DEEP} 1", f"put 1 {TOO_DEEP}"):
            self.assert_refused(NoLine, main(line))
        self.assert_read(main(f"put {DEEPEST} {DEEPEST}"))

    def test_tell(self):
        self.assert_line("tell mine", ("tell", 3, ("mine",)))
        for line in ("tell", "tell 1 2", "tell tell", "tell x y", f"tell {TOO_DEEP}"):
            self.assert_refused(NoLine, main(line))

    def test_stop_and_meet(self):
        self.assert_line("stop", ("stop", 3))
        self.assert_line("meet", ("meet", 3))
        for line in ("stop 1", "stop x", "meet 1", "meet x", "meet meet", "stop ", " stop", "meet ", " meet"):
            self.assert_refused(NoLine, main(line))

    def test_call(self):
        self.assert_line("call x f", ("call", 3, "x", "f", []))
        for line in ("call", "call x", "call 1 f", "call x 1", "call x f +", "call x call", "call call f",
                     "call x set"):
            self.assert_refused(NoLine, main(line))

    def test_call_with_none_to_six_expressions(self):
        names = ["a", "b", "c", "d", "e", "g", "h"]
        for many in range(7):
            call, begin = [" ".join([first] + names[:many]) for first in ("call x f", "def f")]
            text = texts("def main", call, "end", begin, "end")
            args = [("name", name) for name in names[:many]]
            self.assertEqual(self.assert_read(text), [
                ("main", [], [("call", 2, "x", "f", args)], 1, 3), ("f", names[:many], [], 4, 5),
            ])
            self.assert_kinds(read(text))
        self.assert_refused(NoLine, texts("def main", "call x f " + " ".join(names), "end", "def f a b c d e g", "end"))
        self.assert_refused(NoLine, texts("def main", "end", "def f " + " ".join(names), "end"))

    def test_call_with_broad_expressions(self):
        text = texts("def main", "call x f + 1 2 box lane * x y", "end", "def f a b c", "end")
        self.assertEqual(self.assert_read(text)[0][2], [
            ("call", 2, "x", "f", [("+", ONE, TWO), ("box", ("lane",)), ("*", X, Y)]),
        ])
        deepest = " ".join([DEEPEST] * 6)
        self.assert_read(texts("def f a b c d e g", "end", "def main", "call x f " + deepest, "end"))
        self.assert_refused(NoLine, texts("def f a", "end", "def main", "call x f " + TOO_DEEP, "end"))

    def test_join(self):
        for word in ("sum", "most", "least", "ahead"):
            self.assert_line(f"join x {word} + 1 y", ("join", 3, "x", word, ("+", ONE, Y)))
        for line in ("join", "join x", "join x sum", "join sum 1", "join x sum 1 2", "join x rem 1", "join x plus 1",
                     "join 1 sum 1", "join sum sum 1", "join x 1", f"join x sum {TOO_DEEP}", "join x Sum 1"):
            self.assert_refused(NoLine, main(line))

    def test_return(self):
        text = texts("def main", "end", "def f", "return + x 1", "end")
        self.assertEqual(self.assert_read(text)[1], ("f", [], [("return", 4, ("+", X, ONE))], 3, 5))
        for line in ("return", "return 1 2", f"return {TOO_DEEP}"):
            self.assert_refused(NoLine, texts("def main", "end", "def f", line, "end"))

    def test_break_and_again(self):
        text = main("while x", "break", "again", "end")
        self.assertEqual(self.assert_read(text)[0][2], [("while", 2, X, [("break", 3), ("again", 4)])])
        for line in ("break 1", "again x", "break again"):
            self.assert_refused(NoLine, main("while 1", line, "end"))

    def test_if_with_and_without_else(self):
        self.assertEqual(self.assert_read(main("if x", "end"))[0][2], [("if", 2, X, [], None)])
        self.assertEqual(self.assert_read(main("if x", "else", "end"))[0][2], [("if", 2, X, [], [])])
        self.assertEqual(self.assert_read(main("if x", "tell 1", "end", "stop"))[0][2], [
            ("if", 2, X, [("tell", 3, ONE)], None), ("stop", 5),
        ])
        self.assertEqual(self.assert_read(main("if x", "else", "tell 1", "end", "stop"))[0][2], [
            ("if", 2, X, [], [("tell", 4, ONE)]), ("stop", 6),
        ])
        text = main("if box x", "tell 1", "meet", "else", "tell 2", "stop", "end")
        self.assertEqual(self.assert_read(text)[0][2], [
            ("if", 2, ("box", X), [("tell", 3, ONE), ("meet", 4)], [("tell", 6, TWO), ("stop", 7)]),
        ])
        self.assert_kinds(read(text))
        for line in ("if", "if 1 2", "if x y", "if if", f"if {TOO_DEEP}"):
            self.assert_refused(NoLine, main(line, "end"))
        for line in ("else 1", "else if", "else x", "else "):
            self.assert_refused(NoLine, main("if 1", line, "end"))

    def test_while(self):
        self.assertEqual(self.assert_read(main("while x", "end"))[0][2], [("while", 2, X, [])])
        text = main("while < x 2", "while y", "tell 1", "end", "stop", "end", "meet")
        self.assertEqual(self.assert_read(text)[0][2], [
            ("while", 2, ("<", X, TWO), [("while", 3, Y, [("tell", 4, ONE)]), ("stop", 6)]), ("meet", 8),
        ])
        for line in ("while", "while 1 2", "while while", f"while {TOO_DEEP}"):
            self.assert_refused(NoLine, main(line, "end"))

    def test_end_has_no_more_words(self):
        for line in ("end 1", "end end", "end def", "end ", " end"):
            self.assert_refused(NoLine, texts("def main", line))

    def test_def(self):
        text = texts("def f", "tell 1", "end", "def main", "end", "def g a bc", "stop", "meet", "end")
        self.assertEqual(self.assert_read(text), [
            ("f", [], [("tell", 2, ONE)], 1, 3),
            ("main", [], [], 4, 5),
            ("g", ["a", "bc"], [("stop", 7), ("meet", 8)], 6, 9),
        ])
        for line in ("def", "def 1", "def X", "def f 1", "def f a B", "def f + 1 2", "def def", "def f lane",
                     "def abcdefghi"):
            self.assert_refused(NoLine, texts("def main", "end", line, "end"))

    def test_kept_words_are_no_names_in_any_line(self):
        for word in KEPT:
            for line in (f"set {word} 1", f"join {word} sum 1", f"call {word} f", f"call x {word}"):
                self.assert_refused(NoLine, texts("def main", line, "end", "def f", "end"))
            self.assert_refused(NoLine, texts("def main", "end", f"def {word}", "end"))
            self.assert_refused(NoLine, texts("def main", "end", f"def f {word}", "end"))
            self.assert_refused(NoLine, texts("def main", "end", f"def f a {word}", "end"))

    def test_blanks_and_other_words(self):
        for line in ("tell  1", " tell 1", "tell 1 ", "", " ", "  ", "TELL 1", "print 1", "x", "1", "tell1", "set  x 1",
                     "set x  1", "call x f ", "call  x f", "call x  f", "# tell", "tell\t1"):
            self.assert_refused(NoLine, texts("def main", line, "end", "def f", "end"))


class TestNest(TextsCase):
    def test_five_ifs_and_whiles_in_one_another_and_a_sixth(self):
        for first in ("if x", "while x"):
            for second in ("if y", "while y"):
                lines = [first if at % 2 else second for at in range(6)]
                self.assert_read(main(*(lines[:5] + ["end"] * 5)))
                self.assert_refused(NoNest, main(*(lines + ["end"] * 6)))

    def test_the_five_are_counted_anew_behind_an_end_and_in_an_else(self):
        five = ["if x"] * 5 + ["end"] * 5
        self.assert_read(main(*(five + five)))
        self.assert_read(main("if x", *(five[1:-1] + ["else"] + five[1:-1]), "end"))
        self.assert_refused(NoNest, main("if x", *(["else"] + five), "end"))
        self.assert_read(texts(main(*five), "def f", *five, "end"))

    def test_a_nest_of_five_is_told(self):
        text = main("if 1", "while 2", "if x", "else", "while y", "if 1", "break", "else", "again", "end", "end", "end",
                    "tell 1", "end", "end")
        inner = ("if", 7, ONE, [("break", 8)], [("again", 10)])
        self.assertEqual(self.assert_read(text)[0], ("main", [], [
            ("if", 2, ONE, [
                ("while", 3, TWO, [("if", 4, X, [], [("while", 6, Y, [inner])]), ("tell", 14, ONE)]),
            ], None),
        ], 1, 17))

    def test_a_def_in_a_def(self):
        for text in (
            main("def f", "end"), main("if 1", "def f", "end", "end"), main("while 1", "def f", "end", "end"),
            texts("def f", "def main", "end", "end"), texts("def f", "def main", "end"),
        ):
            self.assert_refused(NoNest, text)

    def test_a_line_outside_all_defs(self):
        for line in ("set x 1", "put 1 1", "tell 1", "if 1", "else", "while 1", "end", "break", "again", "call x f",
                     "return 1", "stop", "join x sum 1", "meet"):
            self.assert_refused(NoNest, texts(line, "def main", "end"))
            self.assert_refused(NoNest, texts("def main", "end", line))
            self.assert_refused(NoNest, texts("def main", "end", line, "def f", "end"))
            self.assert_refused(NoNest, line)

    def test_an_else_elsewhere(self):
        for lines in (
            ("else",), ("tell 1", "else"), ("while 1", "else", "end"), ("if 1", "while 1", "else", "end", "end"),
            ("if 1", "end", "else"), ("while 1", "if 1", "end", "else", "end"),
        ):
            self.assert_refused(NoNest, main(*lines))

    def test_a_second_else(self):
        self.assert_refused(NoNest, main("if 1", "else", "else", "end"))
        self.assert_refused(NoNest, main("if 1", "tell 1", "else", "tell 1", "else", "tell 1", "end"))
        self.assert_refused(NoNest, main("if 1", "else", "if 1", "else", "end", "else", "end"))
        self.assert_read(main("if 1", "if 1", "else", "end", "else", "if 1", "else", "end", "end"))

    def test_break_and_again_in_no_while(self):
        for word in ("break", "again"):
            for lines in (
                (word,), ("if 1", word, "end"), ("if 1", "else", word, "end"), ("while 1", "end", word),
                ("if 1", "while 1", "end", word, "end"),
            ):
                self.assert_refused(NoNest, main(*lines))
            self.assert_refused(NoNest, texts("def main", "end", "def f", word, "end"))
            self.assert_read(main("while 1", word, "end"))
            self.assert_read(main("while 1", "if 1", word, "else", word, "end", "end"))
            self.assert_read(main("if 1", "while 1", "if 1", "if 1", word, "end", "end", "end", "stop", "end"))

    def test_return_in_main(self):
        for lines in (("return 1",), ("if 1", "return 1", "end"), ("while 1", "return 1", "end"), ("stop", "return x")):
            self.assert_refused(NoNest, main(*lines))
            self.assert_read(texts("def main", "end", "def f", *lines, "end"))
        self.assert_read(texts("def f", "return 1", "end", "def main", "end", "def g", "return 1", "end"))
        self.assert_refused(NoNest, texts("def f", "end", "def main", "return 1", "end"))

    def test_ends_too_many_or_too_few(self):
        for text in (
            "def main", main("end"), main("if 1"), main("while 1"), main("if 1", "else"), main("if 1", "end", "end"),
            texts("def main", "end", "end"), texts("def main", "tell 1"), texts("def main", "end", "def f"),
            texts("def main", "if 1", "end"), texts("def main", "def f", "end"), main("if 1", "if 1", "end"),
        ):
            self.assert_refused(NoNest, text)


class TestNames(TextsCase):
    def test_two_defs_called_alike(self):
        self.assert_refused(NoName, texts("def main", "end", "def f", "end", "def f", "end"))
        self.assert_refused(NoName, texts("def main", "end", "def f", "end", "def g", "end", "def f a", "end"))
        self.assert_refused(NoName, texts("def main", "end", "def main", "end"))

    def test_two_parameters_called_alike(self):
        for params in ("a a", "a b a", "a b c d e a", "b a a"):
            self.assert_refused(NoName, texts("def main", "end", f"def f {params}", "end"))
        self.assert_read(texts("def main", "end", "def f a b", "end", "def g b a f g main", "end"))

    def test_a_call_of_no_def(self):
        for lines in (("call x f",), ("if 1", "call x f", "end"), ("if 1", "else", "call x f", "end"),
                      ("while 1", "call x f", "end"),
                      ("while 1", "if 1", "else", "if x", "call x f", "end", "end", "end")):
            self.assert_refused(NoName, main(*lines))
            self.assert_refused(NoName, texts(main(*lines), "def x", "end", "def g", "end"))
            self.assert_read(texts(main(*lines), "def f", "end"))
        self.assert_refused(NoName, texts("def main", "end", "def f", "call x x", "end"))

    def test_a_call_of_main(self):
        self.assert_refused(NoName, main("call x main"))
        self.assert_refused(NoName, texts("def main", "end", "def f", "call x main", "end"))
        self.assert_read(texts("def main", "call main f main", "end", "def f main", "end"))

    def test_too_few_or_too_many_expressions(self):
        for many in range(7):
            for given in range(7):
                text = texts(
                    main(" ".join(["call x f"] + ["1"] * given)), " ".join(["def f"] + list("abcdeg"[:many])), "end",
                )
                if many == given:
                    self.assert_read(text)
                else:
                    self.assert_refused(NoName, text)

    def test_main_with_parameters(self):
        for params in ("a", "a b", "main", "a b c d e f"):
            self.assert_refused(NoName, texts(f"def main {params}", "end"))

    def test_no_main(self):
        self.assert_refused(NoName, texts("def f", "end"))
        self.assert_refused(NoName, texts("def mains", "end", "def f main", "end"))

    def test_a_call_ahead_of_the_def_and_within_itself(self):
        text = texts("def f a", "call a f a", "call a g", "end", "def main", "call x f 1", "end",
                     "def g", "call x f 2", "end")
        self.assertEqual(self.assert_read(text), [
            ("f", ["a"], [("call", 2, "a", "f", [("name", "a")]), ("call", 3, "a", "g", [])], 1, 4),
            ("main", [], [("call", 6, "x", "f", [ONE])], 5, 7),
            ("g", [], [("call", 9, "x", "f", [TWO])], 8, 10),
        ])


class TestFirstThatIsDue(TextsCase):
    def test_lines_199_to_202(self):
        for many in (199, 200):
            self.assertEqual(len(self.assert_read(main(*["stop"] * (many - 2)))[0][2]), many - 2)
        for many in (201, 202, 400):
            self.assert_refused(TooMuch, main(*["stop"] * (many - 2)))

    def test_line_ends_count_as_lines(self):
        self.assert_refused(NoLine, main(*["stop"] * 197) + "\n")
        self.assert_refused(TooMuch, main(*["stop"] * 198) + "\n")
        self.assert_refused(NoLine, "\n" * 199)
        self.assert_refused(TooMuch, "\n" * 200)
        self.assert_refused(TooMuch, "\n" * 20000)

    def test_no_signs(self):
        self.assert_refused(NoLine, "")
        self.assert_refused(NoLine, "\n")
        self.assert_refused(NoLine, " ")
        self.assert_refused(NoLine, main(""))
        self.assert_refused(NoLine, main() + "\n")
        self.assert_refused(NoLine, "\n" + main())
        self.assert_refused(NoLine, texts(main(), "", "def f", "end"))

    def test_each_goes_ahead_of_those_behind_it(self):
        faults = {TooMuch: ["stop"] * 200, NoLine: ["nothing"], NoNest: ["end", "stop"], NoName: ["call x f"]}
        for one in range(16):
            due = [refusal for at, refusal in enumerate(REFUSALS) if one >> at & 1]
            for order in (due, due[::-1]):
                text = main(*[line for refusal in order for line in faults[refusal]])
                if due:
                    self.assert_refused(due[0], text)
                else:
                    self.assert_read(text)

    def test_a_later_line_may_be_due_first(self):
        self.assert_refused(NoLine, texts("end", "def main a", "call x f", "tell"))
        self.assert_refused(NoNest, texts("def f a a", "call x h", "end", "break"))
        self.assert_refused(NoNest, texts("def main", "return 1", "end", "def main", "end"))
        self.assert_refused(NoNest, texts("def main a", "def main", "end"))
        self.assert_refused(NoLine, texts("def f a b c d e g h", "def f", "end"))

    def test_every_sign_is_read_or_refused(self):
        for code in list(range(32, 127)) + [10]:
            sign = chr(code)
            for text in (sign, main(sign), main("tell " + sign), main("tell 1" + sign), main("set " + sign + " 1")):
                try:
                    self.assertEqual(shown(read(text)), text)
                except LaneError as taken:
                    self.assertIn(type(taken), (NoLine, NoNest))


class TestShown(TextsCase):
    def test_texts_of_all_kinds_come_back(self):
        for seed in range(150):
            self.assert_kinds(self.assert_read(program_text(seed)))
        for seed in range(10):
            self.assert_read(program_text(seed, most_lines=195))

    def test_broad_texts(self):
        for signs in (20000, 100000):
            text = broad_text(200, signs)
            self.assertTrue(signs - 1000 < len(text) <= signs)
            self.assert_read(text)

    def test_shown_is_a_text(self):
        self.assertIs(type(shown(read(main()))), str)
        self.assertEqual(shown(read(main())), "def main\nend")

    def test_each_program_is_a_new_one(self):
        text = texts("def main", "if 1", "call x f 1 2", "else", "end", "while 1", "end", "end", "def f a b", "end")
        before = read(text)
        spoilt = read(text)
        spoilt[0][2][0][3][0][4].append(("num", 9))
        spoilt[0][2][0][3].append(("stop", 9))
        spoilt[0][2][0][4].append(("stop", 9))
        spoilt[0][2][1][3].append(("stop", 9))
        spoilt[0][2].append(("stop", 9))
        spoilt[1][1].append("c")
        spoilt[0][1].append("c")
        spoilt[1][2].append(("stop", 9))
        spoilt.append(("g", [], [], 9, 10))
        self.assertEqual(read(text), before)
        self.assertEqual(shown(before), text)

    def test_no_list_of_a_program_is_there_twice(self):
        text = texts("def main", "if 1", "else", "end", "while 1", "end", "call x f", "call x f", "end", "def f", "end")
        program = read(text)
        body = program[0][2]
        lists = [program, program[0][1], program[1][1], body, program[1][2]]
        lists += [body[0][3], body[0][4], body[1][3], body[2][4], body[3][4]]
        self.assertEqual(len({id(each) for each in lists}), len(lists))

    def test_programs_put_together_by_others_are_shown(self):
        nothing = []
        body = [("if", 2, X, nothing, nothing), ("call", 5, "x", "f", nothing)]
        program = [("main", nothing, body, 1, 6), ("f", nothing, nothing, 7, 8)]
        text = shown(program)
        self.assertEqual(text, texts("def main", "if x", "else", "end", "call x f", "end", "def f", "end"))
        self.assertEqual(read(text), program)
        self.assertEqual(nothing, [])


if __name__ == "__main__":
    unittest.main()
