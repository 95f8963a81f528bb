"""Promises [19] and [20], with [2]: the forms of places, and the lines that may clash."""

import copy
import unittest

from program_texts import broad_text, main, program_text, texts

from widelanes.could import could, form_of, may_meet
from widelanes.rows import made
from widelanes.texts import read
from widelanes.words import read_expression


# The rule of [20] once more, row by row. The place of a touch is read off the rows ahead of it.

def second_form(words):
    if len(words) == 1 and words[0].lstrip("-").isdigit():
        return ("fixed", int(words[0]))
    if words == ["lane"]:
        return ("lane", 0)
    if len(words) == 3 and words[0] == "+" and "lane" in words[1:]:
        other = [word for word in words[1:] if word != "lane"]
        if other and other[0].lstrip("-").isdigit():
            return ("lane", int(other[0]))
    return ("any", 0)


def touches(rows):
    """For each get and put row the form of its place, by the words that the slots were made of."""
    found, slots = {}, {}
    for k, row in enumerate(rows):
        if row[0] == "num":
            slots[row[2]] = [str(row[3])]
        elif row[0] == "sign":
            slots[row[2]] = [row[3]]
        elif row[0] == "copy":
            slots[row[2]] = ["name"]
        elif row[0] == "op":
            slots[row[2]] = [row[3]] + slots[row[4]] + slots[row[5]]
        elif row[0] == "get":
            found[k] = second_form(slots[row[3]])
            slots[row[2]] = ["box"] + slots[row[3]]
        elif row[0] == "put":
            found[k] = second_form(slots[row[2]])
    return found


def phase_next(rows, k):
    row = rows[k]
    if row[0] in ("meet", "join"):
        return []
    if row[0] == "call":
        return [row[5]]
    if row[0] == "back":
        first = max([at + 1 for at in range(k) if rows[at][0] == "back"], default=0)
        return [at + 1 for at, other in enumerate(rows) if other[0] == "call" and other[5] == first]
    if row[0] == "jump":
        return [row[2]]
    return [k + 1, row[3]] if row[0] == "split" else [k + 1]


def phase(rows, start):
    found, due = set(), [start]
    while due:
        k = due.pop()
        if k not in found:
            found.add(k)
            due.extend(phase_next(rows, k))
    return found


def one_box(one, other):
    if one[0] == other[0] == "fixed":
        return one == other
    return not (one[0] == other[0] == "lane" and one == other)


def second_could(program):
    rows = made(program)
    forms = touches(rows)
    pairs = set()
    for start in [0] + [k + 1 for k, row in enumerate(rows) if row[0] in ("meet", "join")]:
        come = [k for k in phase(rows, start) if k in forms]
        for one in come:
            for other in come:
                if rows[one][0] == "put" and one_box(forms[one], forms[other]):
                    pairs.add(tuple(sorted((rows[one][1], rows[other][1]))))
    return sorted(pairs)


class CouldCase(unittest.TestCase):
    def assert_sound(self, program):
        before = copy.deepcopy(program)
        told = could(program)
        self.assertIs(type(told), list)
        self.assertTrue(all(type(pair) is tuple and [type(line) for line in pair] == [int, int] for pair in told))
        self.assertEqual(told, second_could(program))
        self.assertEqual(program, before)
        return told

    def assert_could(self, text, *meant):
        self.assertEqual(self.assert_sound(read(text)), list(meant))


class TestForms(CouldCase):
    def assert_form(self, text, meant):
        told = form_of(read_expression(text))
        self.assertIs(type(told), tuple)
        self.assertEqual(told, meant)
        self.assertEqual([type(part) for part in told], [str, int])

    def test_nums(self):
        for n in (0, 1, -1, 31, 999999999, -999999999):
            self.assert_form(str(n), ("fixed", n))

    def test_lane_and_sums_of_lane_and_a_num(self):
        self.assert_form("lane", ("lane", 0))
        for n in (0, 1, -1, 31, 999999999, -999999999):
            self.assert_form(f"+ lane {n}", ("lane", n))
            self.assert_form(f"+ {n} lane", ("lane", n))

    def test_all_else(self):
        for text in ("x", "lanes", "mine", "box 1", "box lane", "+ lane lane", "+ 1 2", "+ lane x", "+ x lane",
                     "+ lane lanes", "+ lane mine", "+ mine 1", "+ lanes 1", "+ lane + 1 2", "+ + lane 0 1",
                     "+ 1 + lane 0", "+ box lane 1", "+ lane box 1", "< lane 1", "= 1 lane"):
            self.assert_form(text, ("any", 0))
        for word in ("-", "*", "div", "rem", "<", "="):
            self.assert_form(f"{word} lane 1", ("any", 0))
            self.assert_form(f"{word} 1 lane", ("any", 0))
            self.assert_form(f"{word} lane 0", ("any", 0))

    def test_form_changes_nothing(self):
        expression = ("+", ("lane",), ("num", 3))
        form_of(expression)
        self.assertEqual(expression, ("+", ("lane",), ("num", 3)))


class TestMayMeet(CouldCase):
    def assert_may(self, one, other, meant):
        self.assertIs(may_meet(one, other), meant)
        self.assertIs(may_meet(other, one), meant)

    def test_every_pair_of_forms(self):
        numbers = (-2, -1, 0, 1, 2, 31)
        for one in numbers:
            for other in numbers:
                self.assert_may(("fixed", one), ("fixed", other), one == other)
                self.assert_may(("lane", one), ("lane", other), one != other)
                self.assert_may(("fixed", one), ("lane", other), True)
            self.assert_may(("fixed", one), ("any", 0), True)
            self.assert_may(("lane", one), ("any", 0), True)
        self.assert_may(("any", 0), ("any", 0), True)


class TestCould(CouldCase):
    def test_no_touches(self):
        self.assert_could(main())
        self.assert_could(main("tell lane", "meet", "set x 1", "while x", "end", "stop"))

    def test_readings_alone(self):
        self.assert_could(main("tell box 1", "tell box x", "set x box box lane"))

    def test_a_put_with_itself(self):
        self.assert_could(main("put 1 1"), (2, 2))
        self.assert_could(main("put x 1"), (2, 2))
        self.assert_could(main("put mine 1"), (2, 2))
        self.assert_could(main("put lane 1"))
        self.assert_could(main("put + lane 3 1"))
        self.assert_could(main("put + 3 lane 1"))

    def test_touches_of_one_line(self):
        self.assert_could(main("put lane box lane"))
        self.assert_could(main("put lane box + lane 1"), (2, 2))
        self.assert_could(main("put lane box 1"), (2, 2))
        self.assert_could(main("put lane + 1 box + 0 lane"))
        self.assert_could(main("put box lane 1"), (2, 2))
        self.assert_could(main("put lane box box lane"), (2, 2))

    def test_straight_lines(self):
        self.assert_could(main("put lane 1", "tell box lane", "tell box + 1 lane", "tell box 5", "put + lane 2 box x"),
                          (2, 4), (2, 5), (2, 6), (3, 6), (4, 6), (5, 6), (6, 6))
        self.assert_could(main("put 1 0", "tell box 2", "tell box 1", "put 2 0"), (2, 2), (2, 4), (3, 5), (5, 5))
        self.assert_could(main("tell box 1", "put 1 0"), (2, 3), (3, 3))

    def test_each_statement_that_reads(self):
        for line in ("set x box 1", "tell box 1", "if box 1\nend", "while box 1\nend", "put lane box 1",
                     "put box 1 0", "call x f 0 box 1"):
            text = texts("def main", "put 1 0", line, "end", "def f a b", "end")
            self.assertIn((2, 3), self.assert_sound(read(text)))
        self.assert_could(main("put 1 0", "join x sum box 1"), (2, 2), (2, 3))
        text = texts("def main", "put 1 0", "call x f", "end", "def f", "return + 1 box 1", "end")
        self.assert_could(text, (2, 2), (2, 6))

    def test_phases_parted_by_meet_and_join(self):
        for meeting in ("meet", "join y sum 1"):
            self.assert_could(main("put lane 1", meeting, "tell box x"))
            self.assert_could(main("put lane 1", meeting, "put + lane 1 1"))
            self.assert_could(main("put lane 1", "if x", meeting, "end", "tell box x"), (2, 6))
            self.assert_could(main("put lane 1", "if x", meeting, "else", meeting, "end", "tell box x"))
            self.assert_could(main("put lane 1", meeting, "put lane 1", "tell box 0"), (4, 5))

    def test_a_join_reads_ahead_of_its_meeting(self):
        self.assert_could(main("put lane 0", "join x sum box 1"), (2, 3))
        self.assert_could(main("join x sum box 1", "put lane 0"))
        self.assert_could(main("while 1", "put lane 0", "join x sum box 1", "end"), (3, 4))

    def test_the_two_ways_of_an_if_lie_in_one_phase(self):
        self.assert_could(main("if x", "put lane 1", "else", "tell box 1", "end"), (3, 5))
        self.assert_could(main("if x", "meet", "put lane 1", "else", "tell box 1", "end"))
        self.assert_could(main("if x", "meet", "put lane 1", "else", "meet", "tell box 1", "end"))
        self.assert_could(main("if x", "meet", "put lane 1", "else", "tell 1", "end", "tell box 1"), (4, 8))
        self.assert_could(main("if x", "meet", "put lane 1", "end", "tell box 1"), (4, 6))

    def test_loops(self):
        self.assert_could(main("while x", "tell box 1", "meet", "put lane 1", "end"), (3, 5))
        self.assert_could(main("while x", "tell box 1", "meet", "put lane 1", "meet", "end"))
        self.assert_could(main("while x", "tell box 1", "meet", "put lane 1", "break", "end"))
        self.assert_could(main("while x", "tell box 1", "meet", "put lane 1", "again", "meet", "end"), (3, 5))
        self.assert_could(main("while x", "put lane 1", "meet", "end", "tell box 1"), (3, 6))
        self.assert_could(main("while x", "put lane 1", "meet", "end", "meet", "tell box 1"))

    def test_a_while_test_reads_in_the_phase_behind_too(self):
        self.assert_could(main("while box 1", "meet", "put lane 1", "end"), (2, 4))

    def test_calls_and_the_rows_behind_them(self):
        text = texts("def main", "put lane 1", "call x f", "tell box 1", "end", "def f", "meet", "end")
        self.assert_could(text)
        text = texts("def main", "put lane 1", "call x f", "tell box 1", "end", "def f", "end")
        self.assert_could(text, (2, 4))
        text = texts("def main", "put lane 1", "call x f", "end", "def f", "tell box 1", "meet", "end")
        self.assert_could(text, (2, 6))
        text = texts("def main", "put lane 1", "call x f", "end", "def f", "meet", "tell box 1", "end")
        self.assert_could(text)

    def test_from_a_back_row_to_each_call(self):
        text = texts(
            "def main", "call x f", "put lane 1", "meet", "call x f", "tell box 1", "end", "def f", "meet", "end",
        )
        self.assert_could(text, (3, 6))
        text = texts("def main", "call x f", "put lane 1", "call x g", "tell box 1", "end",
                     "def f", "meet", "end", "def g", "meet", "end")
        self.assert_could(text)
        text = texts("def main", "meet", "tell box 1", "end", "def f", "call x f", "put lane 1", "end")
        self.assert_could(text)

    def test_defs_that_call_themselves_and_one_another(self):
        text = texts("def main", "call x f", "end",
                     "def f", "tell box 1", "if x", "call x f", "put lane 1", "end", "end")
        self.assert_could(text, (5, 8))
        # Here line 11 is come to from f's own end alone.
        text = texts("def g", "meet", "call x f", "end", "def main", "call x f", "end",
                     "def f", "put lane 0", "call x g", "tell box 1", "end")
        self.assert_could(text)
        text = texts("def g", "meet", "if x", "call x f", "end", "end", "def main", "call x f", "end",
                     "def f", "put lane 0", "call x g", "tell box 1", "end")
        self.assert_could(text, (11, 13))

    def test_defs_that_nothing_calls(self):
        text = texts("def main", "put 1 1", "end", "def f", "put 1 1", "end")
        self.assert_could(text, (2, 2))
        text = texts("def main", "put 1 1", "end", "def f", "meet", "put 1 1", "end")
        self.assert_could(text, (2, 2), (6, 6))

    def test_a_stop_and_a_return(self):
        self.assert_could(main("put lane 1", "stop", "tell box 1"), (2, 4))
        text = texts("def main", "call x f", "end", "def f", "put lane 1", "return 1", "tell box 1", "end")
        self.assert_could(text)
        text = texts("def main", "call x f", "tell box 1", "end", "def f", "put lane 1", "return 1", "meet", "end")
        self.assert_could(text, (3, 6))

    def test_rows_that_no_phase_comes_to(self):
        self.assert_could(main("while 1", "break", "put 1 1", "end"))
        self.assert_could(main("while 1", "break", "meet", "put 1 1", "end"), (5, 5))

    def test_main_behind_other_defs(self):
        text = texts("def f", "tell box 1", "end", "def main", "call x f", "put lane 1", "end")
        self.assert_could(text, (2, 6))

    def test_programs_of_all_kinds(self):
        for seed in range(200):
            self.assert_sound(read(program_text(seed)))
        kinds = ("put", "tell", "if", "while", "meet", "call", "break", "return")
        for seed in range(200):
            self.assert_sound(read(program_text(seed, own=0.1, kinds=kinds)))
        for seed in range(6):
            self.assert_sound(read(program_text(seed, most_lines=195)))

    def test_a_broad_program(self):
        program = read(broad_text(200, 100000))
        lines = sorted(statement[1] for statement in program[0][2] if statement[0] == "put")
        self.assertEqual(could(program), [(one, other) for one in lines for other in lines if one <= other])

    def test_many_phases(self):
        lines = [line for each in range(66) for line in ("put lane 1", "meet", "tell box 1")]
        told = could(read(main(*lines)))
        self.assertEqual(told, [(at, at + 1) for at in range(4, 198, 3)])

    def test_what_is_told_is_the_askers_own(self):
        program = read(main("put 1 1"))
        could(program).append((9, 9))
        self.assertEqual(could(program), [(2, 2)])

    def test_programs_put_together_by_others(self):
        nothing = []
        program = [("f", nothing, nothing, 1, 2), ("main", nothing, [
            ("put", 4, ("num", 1), ("num", 1)), ("if", 5, ("box", ("lane",)), nothing, nothing),
            ("call", 8, "x", "f", nothing),
        ], 3, 9)]
        self.assertEqual(could(program), [(4, 4), (4, 5)])
        self.assertEqual(nothing, [])


if __name__ == "__main__":
    unittest.main()
