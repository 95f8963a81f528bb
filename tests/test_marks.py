"""Promises [11], [12] and [13], with [2] and [3]: own marks, their reasons, and the meetings that wait."""

import copy
import unittest

from program_texts import broad_text, main, program_text, texts

from widelanes.marks import is_let, marks, waits
from widelanes.texts import read


# The rules of [12] once more, straight as they stand there: of a program and a set of keys that are taken to be
# marked, each reason that there is, as (key, line, cause). A cause is None or one of the keys.

def own_causes(f, expression, marked):
    if expression[0] in ("lane", "mine"):
        return {None}
    if expression[0] == "name":
        key = ("name", f, expression[1])
        return {key} & marked
    parts = [part for part in expression[1:] if isinstance(part, tuple)]
    return set().union(*[own_causes(f, part, marked) for part in parts])


def way_causes(f, rounds, marked):
    return ({("def", f)} | {("row", line) for line, kind in rounds}) & marked


def stood(body, rounds):
    for statement in body:
        yield statement, rounds
        inner = rounds + [(statement[1], statement[0])]
        if statement[0] == "while":
            yield from stood(statement[3], inner)
        if statement[0] == "if":
            yield from stood(statement[3], inner)
            yield from stood(statement[4] or [], inner)


def reasons(program, marked):
    params = {each[0]: each[1] for each in program}
    found = set()

    def rule(key, line, causes):
        found.update((key, line, cause) for cause in causes)

    for f, unused, body, first, last in program:
        rule(("back", f), first, {("def", f)} & marked)
        for statement, rounds in stood(body, []):
            kind, line = statement[:2]
            way = way_causes(f, rounds, marked)
            if kind in ("if", "while"):
                rule(("row", line), line, own_causes(f, statement[2], marked))
            if kind in ("break", "again"):
                inner = [at for at, block in rounds if block == "while"][-1]
                rule(("row", inner), line, way)
            if kind == "return":
                rule(("def", f), line, way)
                rule(("back", f), line, own_causes(f, statement[2], marked))
            if kind in ("set", "call", "join"):
                rule(("name", f, statement[2]), line, way)
            if kind == "set":
                rule(("name", f, statement[2]), line, own_causes(f, statement[3], marked))
            if kind == "join" and statement[3] == "ahead":
                rule(("name", f, statement[2]), line, {None})
            if kind == "call":
                called = statement[3]
                rule(("def", called), line, way)
                rule(("name", f, statement[2]), line, {("back", called)} & marked)
                for param, expression in zip(params[called], statement[4]):
                    rule(("name", called, param), line, own_causes(f, expression, marked))
    return found


def least(program):
    marked = set()
    while True:
        more = {key for key, line, cause in reasons(program, marked)}
        if more == marked:
            return marked
        marked = more


def waiting(program, marked):
    found = []
    for f, params, body, first, last in program:
        for statement, rounds in stood(body, []):
            if statement[0] in ("meet", "join"):
                keys = [("def", f)] + [("row", line) for line, kind in rounds]
                keys = [key for key in keys if key in marked]
                if keys:
                    found.append((statement[1], keys[0]))
    return sorted(found)


class MarksCase(unittest.TestCase):
    def assert_sound(self, program):
        before = copy.deepcopy(program)
        told = marks(program)
        marked = least(program)
        self.assertIs(type(told), dict)
        self.assertEqual(set(told), marked)
        allowed = reasons(program, marked)
        for key, reason in told.items():
            self.assertIs(type(reason), tuple)
            self.assertIs(type(reason[0]), int)
            self.assertIn((key,) + reason, allowed)
            self.assert_comes_to_none(told, key)
        self.assert_waits(program, waiting(program, marked))
        self.assertEqual(program, before)
        return told

    def assert_comes_to_none(self, told, key):
        for each in range(len(told)):
            key = told[key][1]
            if key is None:
                return
        self.fail("causes go round")

    def assert_waits(self, program, meant):
        told = waits(program)
        self.assertIs(type(told), list)
        self.assertEqual(told, meant)
        self.assertTrue(all(type(each) is tuple and type(each[0]) is int and type(each[1]) is tuple for each in told))
        self.assertIs(is_let(program), meant == [])

    def assert_marks(self, text, meant):
        self.assertEqual(self.assert_sound(read(text)), meant)

    def assert_keys(self, text, *keys):
        self.assertEqual(set(self.assert_sound(read(text))), set(keys))


class TestMarks(MarksCase):
    def test_without_lane_and_mine_there_are_none(self):
        self.assert_marks(main(), {})
        self.assert_marks(texts(
            "def main", "set x lanes", "put x box 3", "while box 1", "if lanes", "break", "end", "again", "end",
            "join y sum x", "join y most box 0", "join y least 1", "call x f x", "meet", "tell x", "stop", "end",
            "def f a", "if a", "return box a", "end", "call a f a", "end",
        ), {})
        for seed in range(60):
            text = program_text(seed, own=0).replace("ahead", "sum").replace("lane ", "lanes ")
            text = texts(*[line + "s" if line.endswith("lane") else line for line in text.split("\n")])
            self.assert_marks(text, {})

    def test_join_by_ahead_marks_by_itself(self):
        self.assert_marks(main("join x ahead 1"), {("name", "main", "x"): (2, None)})
        self.assert_marks(main("set y x", "join x ahead 1", "if y", "end"), {
            ("name", "main", "x"): (3, None), ("name", "main", "y"): (2, ("name", "main", "x")),
            ("row", 4): (4, ("name", "main", "y")),
        })

    def test_joins_by_the_other_words_mark_nothing(self):
        for word in ("sum", "most", "least"):
            self.assert_marks(main(f"join x {word} lane"), {})
            self.assert_marks(main("set y mine", f"join x {word} y"), {("name", "main", "y"): (2, None)})

    def test_a_row_by_its_expression(self):
        for own in ("lane", "mine", "+ 1 lane", "box mine", "* box + 1 mine 2", "+ x lane"):
            self.assert_marks(main(f"if {own}", "end"), {("row", 2): (2, None)})
            self.assert_marks(main(f"while {own}", "end"), {("row", 2): (2, None)})
        for other in ("lanes", "box 1", "x", "box x", "+ x lanes"):
            self.assert_marks(main(f"if {other}", "end", f"while {other}", "end"), {})

    def test_a_row_by_a_name(self):
        key = ("name", "main", "x")
        self.assert_marks(main("set x lane", "if + 1 x", "end", "while box x", "end", "if y", "end"), {
            key: (2, None), ("row", 3): (3, key), ("row", 5): (5, key),
        })

    def test_names_are_of_their_def(self):
        text = texts("def main", "set x lane", "end", "def f", "if x", "end", "set y x", "end")
        self.assert_keys(text, ("name", "main", "x"))
        self.assert_keys(texts("def main", "if x", "end", "end", "def f", "set x lane", "end"), ("name", "f", "x"))

    def test_a_while_by_its_break_or_again(self):
        for word in ("break", "again"):
            self.assert_marks(main("while 1", "if lane", word, "end", "end"), {
                ("row", 3): (3, None), ("row", 2): (4, ("row", 3)),
            })
            self.assert_marks(main("while 1", "if lane", "else", word, "end", "end"), {
                ("row", 3): (3, None), ("row", 2): (5, ("row", 3)),
            })
            self.assert_marks(main("while 1", word, "end"), {})
            self.assert_marks(main("while 1", "if lane", "end", word, "end"), {("row", 3): (3, None)})

    def test_a_break_is_of_the_innermost_while(self):
        for word in ("break", "again"):
            self.assert_keys(main("while 1", "while 2", "if lane", word, "end", "end", "end"), ("row", 3), ("row", 4))
            self.assert_keys(
                main("while 1", "while 2", "if lane", word, "end", "end", "again", "end"), ("row", 3), ("row", 4),
            )
            self.assert_keys(
                main("while 1", "while 2", "end", "if lane", word, "end", "end"), ("row", 2), ("row", 5),
            )

    def test_a_break_within_an_outer_marked_row(self):
        self.assert_marks(main("if lane", "while 1", "break", "end", "end"), {
            ("row", 2): (2, None), ("row", 3): (4, ("row", 2)),
        })
        self.assert_keys(main("while mine", "while 1", "if 1", "again", "end", "end", "end"), ("row", 2), ("row", 3))
        self.assert_keys(main("if lane", "while 1", "end", "end"), ("row", 2))
        self.assert_keys(main("if lane", "if 1", "end", "end"), ("row", 2))

    def test_a_break_in_a_marked_def(self):
        text = texts("def main", "if lane", "call x f", "end", "end", "def f", "while 1", "break", "end", "end")
        self.assert_marks(text, {
            ("row", 2): (2, None), ("name", "main", "x"): (3, ("row", 2)), ("def", "f"): (3, ("row", 2)),
            ("back", "f"): (6, ("def", "f")), ("row", 7): (8, ("def", "f")),
        })

    def test_a_def_by_a_return(self):
        text = texts("def main", "end", "def f", "if lane", "return 1", "end", "set y 1", "end")
        self.assert_marks(text, {
            ("row", 4): (4, None), ("def", "f"): (5, ("row", 4)), ("back", "f"): (3, ("def", "f")),
            ("name", "f", "y"): (7, ("def", "f")),
        })
        self.assert_keys(texts("def main", "end", "def f", "if lane", "end", "return 1", "end"), ("row", 4))
        self.assert_keys(texts("def main", "end", "def f", "if 1", "return 1", "end", "return 2", "end"))

    def test_a_def_by_a_call(self):
        text = texts("def main", "if lane", "call x f", "end", "end", "def f", "end", "def g", "end")
        self.assert_keys(text, ("row", 2), ("def", "f"), ("back", "f"), ("name", "main", "x"))
        text = texts("def main", "call x f", "if lane", "end", "end", "def f", "end")
        self.assert_keys(text, ("row", 3))

    def test_a_def_by_a_call_in_a_def_that_nothing_calls(self):
        text = texts("def main", "call x f", "end", "def f", "end", "def g", "while mine", "call y f", "end", "end")
        self.assert_keys(text, ("row", 7), ("def", "f"), ("back", "f"), ("name", "main", "x"), ("name", "g", "y"))

    def test_a_def_by_calls_in_marked_defs(self):
        text = texts(
            "def h", "end", "def g", "call z h", "end", "def f", "call y g", "end",
            "def main", "if lane", "call x f", "end", "end",
        )
        self.assert_keys(
            text, ("row", 10), ("def", "f"), ("def", "g"), ("def", "h"), ("back", "f"), ("back", "g"), ("back", "h"),
            ("name", "main", "x"), ("name", "f", "y"), ("name", "g", "z"),
        )

    def test_main_is_never_marked(self):
        for seed in range(60):
            told = marks(read(program_text(seed, own=0.9)))
            self.assertNotIn(("def", "main"), told)
            self.assertNotIn(("back", "main"), told)

    def test_a_name_by_a_set(self):
        for own in ("lane", "mine", "box lane", "+ y mine"):
            self.assert_marks(main(f"set x {own}"), {("name", "main", "x"): (2, None)})
        self.assert_marks(main("set x lanes", "set x + x 1", "set y x"), {})
        self.assert_keys(main("set z y", "set y x", "set x lane"), *[("name", "main", x) for x in "xyz"])
        self.assert_keys(main("set x + x 1", "set x lane", "set x 0"), ("name", "main", "x"))

    def test_a_name_by_its_way(self):
        for line in ("set x 1", "join x sum 1", "call x f"):
            text = texts("def main", "if mine", line, "end", "end", "def f", "end")
            told = self.assert_sound(read(text))
            self.assertEqual(told[("name", "main", "x")], (3, ("row", 2)))
            text = texts("def main", "if 1", line, "end", "end", "def f", "end")
            self.assert_marks(text, {})
            text = texts("def main", "if mine", "end", line, "end", "def f", "end")
            self.assert_marks(text, {("row", 2): (2, None)})

    def test_a_name_by_a_row_at_any_depth_round_it(self):
        self.assert_keys(
            main("if lane", "if 1", "while 0", "set x 1", "end", "end", "end"), ("row", 2), ("name", "main", "x"),
        )
        text = main("if 1", "else", "if lane", "else", "set x 1", "end", "end")
        self.assert_keys(text, ("row", 4), ("name", "main", "x"))

    def test_a_name_by_what_a_def_returns(self):
        text = texts("def main", "call x f", "call y g", "end", "def f", "return lane", "end",
                     "def g", "return 1", "end")
        self.assert_marks(text, {("back", "f"): (6, None), ("name", "main", "x"): (2, ("back", "f"))})

    def test_what_is_returned_through_defs(self):
        text = texts(
            "def main", "call x f", "if x", "end", "end", "def f", "call y g", "return + 1 y", "end",
            "def g", "set z mine", "return box z", "end",
        )
        self.assert_marks(text, {
            ("name", "g", "z"): (11, None), ("back", "g"): (12, ("name", "g", "z")),
            ("name", "f", "y"): (7, ("back", "g")), ("back", "f"): (8, ("name", "f", "y")),
            ("name", "main", "x"): (2, ("back", "f")), ("row", 3): (3, ("name", "main", "x")),
        })

    def test_a_parameter_by_an_expression_in_its_place(self):
        text = texts("def main", "call x f 1 lane lanes", "end", "def f a b c", "set a c", "end")
        self.assert_marks(text, {("name", "f", "b"): (2, None)})
        text = texts("def main", "set y lane", "call x f y 1", "call x f 1 1", "end", "def f a b", "return b", "end")
        self.assert_marks(text, {("name", "main", "y"): (2, None), ("name", "f", "a"): (3, ("name", "main", "y"))})
        text = texts("def main", "call x f a", "end", "def f a", "set a mine", "end")
        self.assert_marks(text, {("name", "f", "a"): (5, None)})

    def test_a_parameter_is_not_marked_by_the_way_of_the_call_alone(self):
        text = texts("def main", "if lane", "call x f 1", "end", "end", "def f a", "return a", "end")
        self.assert_keys(text, ("row", 2), ("name", "main", "x"), ("def", "f"), ("back", "f"))

    def test_defs_that_call_themselves_and_one_another(self):
        text = texts("def main", "call x f 3", "end", "def f a", "if a", "call a f - a 1", "end", "return a", "end")
        self.assert_marks(text, {})
        text = texts("def main", "call x f mine 0", "end", "def f a b", "call y f b a", "return b", "end")
        self.assert_keys(
            text, ("name", "f", "a"), ("name", "f", "b"), ("back", "f"), ("name", "f", "y"), ("name", "main", "x"),
        )
        text = texts(
            "def main", "call x f 1", "end", "def f a", "call a g a", "return a", "end",
            "def g b", "if b", "call b f b", "end", "if mine", "return 2", "end", "end",
        )
        told = self.assert_sound(read(text))
        self.assertEqual(told[("def", "g")], (13, ("row", 12)))
        self.assertIn(("def", "f"), told)

    def test_a_def_that_marks_itself_by_a_call(self):
        text = texts("def main", "call x f", "end", "def f", "if lane", "call y f", "end", "meet", "end")
        self.assert_keys(text, ("row", 5), ("def", "f"), ("back", "f"), ("name", "f", "y"), ("name", "main", "x"))
        self.assert_waits(read(text), [(8, ("def", "f"))])

    def test_random_programs(self):
        for own in (0.05, 0.2, 0.5):
            for seed in range(150):
                self.assert_sound(read(program_text(seed, own=own)))
        for seed in range(20):
            self.assert_sound(read(program_text(seed, own=0.1, most_lines=195)))

    def test_a_long_chain(self):
        # Each line follows from the one behind it, so that no single walk down the text finds all.
        names = [chr(97 + at // 26) + chr(97 + at % 26) for at in range(198)]
        names = [name + "q" for name in names]
        lines = [f"set {names[at]} {names[at + 1]}" for at in range(197)] + [f"set {names[197]} lane"]
        told = self.assert_sound(read(main(*lines)))
        self.assertEqual(len(told), 198)

    def test_a_broad_program(self):
        program = read(broad_text(200, 100000))
        self.assertEqual(marks(program), {})
        self.assertEqual(waits(program), [])


class TestWaits(MarksCase):
    def assert_text(self, text, *meant):
        program = read(text)
        self.assert_sound(program)
        self.assert_waits(program, list(meant))

    def test_on_no_own_way(self):
        for meeting in ("meet", "join x sum lane", "join x ahead mine"):
            self.assert_text(main(meeting))
            self.assert_text(main("if lanes", meeting, "else", "while box 1", meeting, "end", "end"))
            self.assert_text(main("if lane", "end", meeting))
            self.assert_text(main(meeting, "while mine", "end"))
            self.assert_text(texts("def main", "call x f", "end", "def f", meeting, "end"))

    def test_within_a_marked_row(self):
        for meeting in ("meet", "join x sum 1", "join x ahead 1"):
            self.assert_text(main("if lane", meeting, "end"), (3, ("row", 2)))
            self.assert_text(main("if lane", "else", meeting, "end"), (4, ("row", 2)))
            self.assert_text(main("while mine", meeting, "end"), (3, ("row", 2)))

    def test_within_several_the_outermost_is_told(self):
        self.assert_text(main("if lane", "while mine", "if 1", "meet", "end", "end", "end"), (5, ("row", 2)))
        self.assert_text(main("if 1", "while mine", "if lane", "meet", "end", "end", "end"), (5, ("row", 3)))
        self.assert_text(main("if 1", "while 1", "if lane", "meet", "end", "end", "end"), (5, ("row", 4)))

    def test_a_while_with_its_break_on_an_own_way(self):
        self.assert_text(main("while 1", "if lane", "break", "end", "meet", "end", "meet"), (6, ("row", 2)))
        self.assert_text(main("while 1", "if lane", "end", "meet", "break", "end", "meet"))
        self.assert_text(main("while 1", "meet", "if mine", "again", "end", "end"), (3, ("row", 2)))

    def test_a_join_that_marks_the_while_round_it(self):
        self.assert_text(main("while x", "join x ahead 1", "end"), (3, ("row", 2)))
        self.assert_text(main("while x", "join x sum 1", "end"))

    def test_in_a_marked_def_the_def_is_told(self):
        text = texts("def main", "if lane", "call x f", "end", "meet", "end",
                     "def f", "meet", "if mine", "join a sum 1", "end", "end")
        self.assert_text(text, (8, ("def", "f")), (10, ("def", "f")))
        text = texts("def f", "if mine", "return 1", "end", "meet", "end", "def main", "call x f", "meet", "end")
        self.assert_text(text, (5, ("def", "f")))

    def test_in_a_def_called_from_an_own_way_by_another(self):
        text = texts("def g", "meet", "end", "def f", "call x g", "end",
                     "def main", "while lane", "call x f", "end", "end")
        self.assert_text(text, (2, ("def", "g")))

    def test_by_rising_lines(self):
        text = texts(
            "def g", "if lane", "meet", "end", "end", "def main", "if mine", "meet", "call x f", "end", "meet", "end",
            "def f", "join x most 1", "end",
        )
        self.assert_text(text, (3, ("row", 2)), (8, ("row", 7)), (14, ("def", "f")))

    def test_is_let_is_true_and_false(self):
        self.assertIs(is_let(read(main("meet"))), True)
        self.assertIs(is_let(read(main("if lane", "meet", "end"))), False)


class TestAskersOwn(MarksCase):
    def test_what_is_told_is_the_askers_own(self):
        program = read(texts("def main", "if lane", "meet", "call x f lane", "end", "end", "def f a", "end"))
        before = copy.deepcopy(program)
        kept_marks, kept_waits = marks(program), waits(program)
        spoilt = marks(program)
        spoilt.clear()
        spoilt[("def", "main")] = (1, None)
        waits(program).append((9, ("row", 9)))
        self.assertEqual(marks(program), kept_marks)
        self.assertEqual(waits(program), kept_waits)
        self.assertIs(is_let(program), False)
        self.assertEqual(program, before)

    def test_programs_put_together_by_others(self):
        nothing = []
        block = ("if", 2, ("lane",), nothing, nothing)
        program = [("main", nothing, [block, ("meet", 5)], 1, 6), ("f", nothing, nothing, 7, 8)]
        self.assertEqual(self.assert_sound(program), {("row", 2): (2, None)})
        self.assertEqual(nothing, [])


if __name__ == "__main__":
    unittest.main()
