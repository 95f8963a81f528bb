"""Promises [14], [15] and [16], with [2]: the rows that a program is made into."""

import copy
import unittest

from program_texts import broad_text, main, program_text, texts

from widelanes.rows import made
from widelanes.texts import read
from widelanes.words import read_expression


# The making once more, from the text itself: a line's words from left to right, and rows by their numbers
# from a first walk over the text that counts how many rows each line has.

def words_after(line):
    return line.split(" ")[1:]


def parted(words):
    """The expressions that stand in these words, each as a list of its words."""
    found, at = [], 0
    while at < len(words):
        begin, asked = at, 1
        while asked:
            asked += {"box": 0}.get(words[at], 1 if words[at] in ("+", "-", "*", "div", "rem", "<", "=") else -1)
            at += 1
        found.append(words[begin:at])
    return found


class Text:
    def __init__(self, text):
        self.lines = [None] + text.split("\n")
        self.partner, self.other, self.loop = {}, {}, {}
        self.defs = []
        opened = []
        for number, line in enumerate(self.lines):
            kind = line.split(" ")[0] if line else None
            if kind in ("def", "if", "while"):
                opened.append(number)
            if kind in ("break", "again"):
                self.loop[number] = [at for at in opened if self.lines[at].startswith("while")][-1]
            if kind == "else":
                self.other[opened[-1]] = number
                self.partner[number] = opened[-1]
            if kind == "end":
                first = opened.pop()
                self.partner[first], self.partner[number] = number, first
                if not opened:
                    self.defs.append((first, number))
        self.defs = [each for each in self.defs if self.lines[each[0]] == "def main"] + [
            each for each in self.defs if self.lines[each[0]] != "def main"]
        self.number_rows()

    def number_rows(self):
        """For each line the number of its first row; of an else, its jump's; of an end, that of the row there."""
        self.first, at = {}, 0
        for begin, last in self.defs:
            for number in range(begin, last + 1):
                self.first[number] = at
                at += self.many(number)
        self.begins = {self.lines[begin].split(" ")[1]: self.first[begin] for begin, last in self.defs}

    def many(self, number):
        line = self.lines[number]
        kind = line.split(" ")[0]
        if kind == "def":
            return 0
        if kind == "else":
            return 1
        if kind == "end":
            opener = self.lines[self.partner[number]].split(" ")[0]
            return {"def": 1, "while": 1, "if": 0}[opener]
        skipped = {"set": 1, "join": 2, "call": 2}.get(kind, 0)
        return 1 + len(words_after(line)[skipped:]) + {"tell": 1, "return": 2}.get(kind, 1)

    def slots(self, begin, last):
        order = ["nothing at all"]
        for number in range(begin, last + 1):
            words = self.lines[number].split(" ")
            words = words[:2] + words[3:] if words[0] == "call" else words
            words = words[:2] + words[3:] if words[0] == "join" else words
            words = words[2:] if words[0] == "def" else words[1:]
            for word in words:
                if word not in order and word.isalpha() and word not in ("lane", "lanes", "mine", "box", "div", "rem"):
                    order.append(word)
        return {name: at for at, name in enumerate(order)}

    def rows(self):
        found = []
        for begin, last in self.defs:
            slots = self.slots(begin, last)
            for number in range(begin, last + 1):
                found.extend(self.line_rows(number, slots, last))
        return found

    def line_rows(self, n, slots, last):
        kind = self.lines[n].split(" ")[0]
        words = words_after(self.lines[n])
        t = len(slots)
        if kind == "def":
            return []
        if kind == "else":
            return [("jump", self.partner[n], self.first[self.partner[self.partner[n]]])]
        if kind == "end":
            return self.end_rows(n)
        given = words[:{"set": 1, "join": 2, "call": 2}.get(kind, 0)]
        parts = parted(words[len(given):])
        rows = [("tick", n)]
        for at, part in enumerate(parts):
            rows.extend(expression_rows(n, part, t + at, slots))
        if kind in ("if", "while"):
            end = self.partner[n]
            target = self.first[end] + (1 if kind == "while" else 0)
            if n in self.other:
                target = self.first[self.other[n]] + 1
            return rows + [("split", n, t, target)]
        ends = {
            "set": lambda: [("copy", n, slots[given[0]], t)],
            "put": lambda: [("put", n, t, t + 1)],
            "tell": lambda: [("tell", n, t)],
            "break": lambda: [("jump", n, self.first[self.partner[self.loop[n]]] + 1)],
            "again": lambda: [("jump", n, self.first[self.loop[n]])],
            "call": lambda: [("call", n, slots[given[0]], t, len(parts), self.begins[given[1]])],
            "return": lambda: [("copy", n, 0, t), ("jump", n, self.first[last])],
            "stop": lambda: [("stop", n)],
            "meet": lambda: [("meet", n)],
            "join": lambda: [("join", n, slots[given[0]], given[1], t)],
        }
        return rows + ends[kind]()

    def end_rows(self, n):
        first = self.partner[n]
        kind = self.lines[first].split(" ")[0]
        if kind == "def":
            return [("back", n)]
        return [("jump", first, self.first[first])] if kind == "while" else []


def expression_rows(n, words, at, slots):
    word = words[0]
    if word == "box":
        return expression_rows(n, words[1:], at, slots) + [("get", n, at, at)]
    if word in ("+", "-", "*", "div", "rem", "<", "="):
        one, other = parted(words[1:])
        rows = expression_rows(n, one, at, slots) + expression_rows(n, other, at + 1, slots)
        return rows + [("op", n, at, word, at, at + 1)]
    if word in ("lane", "lanes", "mine"):
        return [("sign", n, at, word)]
    if word.isalpha():
        return [("copy", n, at, slots[word])]
    return [("num", n, at, int(word))]


class RowsCase(unittest.TestCase):
    def assert_rows(self, text, rows):
        program = read(text)
        before = copy.deepcopy(program)
        told = made(program)
        self.assertIs(type(told), list)
        self.assertTrue(all(type(row) is tuple for row in told))
        self.assertTrue(all(type(part) in (int, str) for row in told for part in row))
        self.assertEqual(told, rows)
        self.assertEqual(program, before)

    def assert_second(self, text):
        self.assert_rows(text, Text(text).rows())


class TestStatements(RowsCase):
    def assert_main(self, lines, rows):
        text = main(*lines)
        self.assert_rows(text, rows + [("back", len(lines) + 2)])
        self.assert_second(text)

    def test_an_empty_main(self):
        self.assert_main((), [])

    def test_set(self):
        self.assert_main(("set x 5",), [("tick", 2), ("num", 2, 2, 5), ("copy", 2, 1, 2)])
        self.assert_main(("set x y",), [("tick", 2), ("copy", 2, 3, 2), ("copy", 2, 1, 3)])
        self.assert_main(("set x x",), [("tick", 2), ("copy", 2, 2, 1), ("copy", 2, 1, 2)])

    def test_put(self):
        self.assert_main(("put 3 lane",), [("tick", 2), ("num", 2, 1, 3), ("sign", 2, 2, "lane"), ("put", 2, 1, 2)])
        self.assert_main(("put + x 1 box x",), [
            ("tick", 2), ("copy", 2, 2, 1), ("num", 2, 3, 1), ("op", 2, 2, "+", 2, 3),
            ("copy", 2, 3, 1), ("get", 2, 3, 3), ("put", 2, 2, 3),
        ])

    def test_tell_stop_meet(self):
        self.assert_main(("tell mine",), [("tick", 2), ("sign", 2, 1, "mine"), ("tell", 2, 1)])
        self.assert_main(("stop", "tell 1"), [("tick", 2), ("stop", 2), ("tick", 3), ("num", 3, 1, 1), ("tell", 3, 1)])
        self.assert_main(("meet", "meet"), [("tick", 2), ("meet", 2), ("tick", 3), ("meet", 3)])

    def test_join(self):
        for word in ("sum", "most", "least", "ahead"):
            self.assert_main((f"join x {word} + y x",), [
                ("tick", 2), ("copy", 2, 3, 2), ("copy", 2, 4, 1), ("op", 2, 3, "+", 3, 4), ("join", 2, 1, word, 3),
            ])

    def test_if_without_else(self):
        self.assert_main(("if x", "tell 1", "end", "stop"), [
            ("tick", 2), ("copy", 2, 2, 1), ("split", 2, 2, 6),
            ("tick", 3), ("num", 3, 2, 1), ("tell", 3, 2), ("tick", 5), ("stop", 5),
        ])

    def test_if_with_else(self):
        self.assert_main(("if x", "tell 1", "else", "stop", "end", "meet"), [
            ("tick", 2), ("copy", 2, 2, 1), ("split", 2, 2, 7),
            ("tick", 3), ("num", 3, 2, 1), ("tell", 3, 2), ("jump", 2, 9),
            ("tick", 5), ("stop", 5), ("tick", 7), ("meet", 7),
        ])

    def test_ifs_with_empty_bodies(self):
        self.assert_main(("if 1", "end"), [("tick", 2), ("num", 2, 1, 1), ("split", 2, 1, 3)])
        self.assert_main(("if 1", "else", "end"), [("tick", 2), ("num", 2, 1, 1), ("split", 2, 1, 4), ("jump", 2, 4)])
        self.assert_main(("if 1", "else", "stop", "end"), [
            ("tick", 2), ("num", 2, 1, 1), ("split", 2, 1, 4), ("jump", 2, 6), ("tick", 4), ("stop", 4),
        ])
        self.assert_main(("if 1", "stop", "else", "end"), [
            ("tick", 2), ("num", 2, 1, 1), ("split", 2, 1, 6), ("tick", 3), ("stop", 3), ("jump", 2, 6),
        ])

    def test_while(self):
        self.assert_main(("while x", "end"), [("tick", 2), ("copy", 2, 2, 1), ("split", 2, 2, 4), ("jump", 2, 0)])
        self.assert_main(("stop", "while x", "meet", "end", "stop"), [
            ("tick", 2), ("stop", 2), ("tick", 3), ("copy", 3, 2, 1), ("split", 3, 2, 8),
            ("tick", 4), ("meet", 4), ("jump", 3, 2), ("tick", 6), ("stop", 6),
        ])

    def test_break_and_again(self):
        self.assert_main(("while 1", "if x", "break", "else", "again", "end", "end", "stop"), [
            ("tick", 2), ("num", 2, 2, 1), ("split", 2, 2, 12),
            ("tick", 3), ("copy", 3, 2, 1), ("split", 3, 2, 9),
            ("tick", 4), ("jump", 4, 12), ("jump", 3, 11), ("tick", 6), ("jump", 6, 0), ("jump", 2, 0),
            ("tick", 9), ("stop", 9),
        ])

    def test_whiles_within_whiles(self):
        self.assert_main(("while 1", "break", "while 2", "again", "break", "end", "again", "break", "end"), [
            ("tick", 2), ("num", 2, 1, 1), ("split", 2, 1, 18), ("tick", 3), ("jump", 3, 18),
            ("tick", 4), ("num", 4, 1, 2), ("split", 4, 1, 13), ("tick", 5), ("jump", 5, 5),
            ("tick", 6), ("jump", 6, 13), ("jump", 4, 5), ("tick", 8), ("jump", 8, 0),
            ("tick", 9), ("jump", 9, 18), ("jump", 2, 0),
        ])


class TestExpressions(RowsCase):
    def assert_told(self, text, rows, names=0):
        self.assert_rows(main("tell " + text), [("tick", 2)] + rows + [("tell", 2, 1 + names), ("back", 3)])

    def test_each_kind(self):
        self.assert_told("-7", [("num", 2, 1, -7)])
        self.assert_told("x", [("copy", 2, 2, 1)], 1)
        for word in ("lane", "lanes", "mine"):
            self.assert_told(word, [("sign", 2, 1, word)])
        self.assert_told("box 4", [("num", 2, 1, 4), ("get", 2, 1, 1)])
        for word in ("+", "-", "*", "div", "rem", "<", "="):
            self.assert_told(f"{word} x 2", [("copy", 2, 2, 1), ("num", 2, 3, 2), ("op", 2, 2, word, 2, 3)], 1)

    def test_parts_in_parts(self):
        self.assert_told("- * 1 2 box + 3 4", [
            ("num", 2, 1, 1), ("num", 2, 2, 2), ("op", 2, 1, "*", 1, 2),
            ("num", 2, 2, 3), ("num", 2, 3, 4), ("op", 2, 2, "+", 2, 3), ("get", 2, 2, 2), ("op", 2, 1, "-", 1, 2),
        ])
        self.assert_told("box box lane", [("sign", 2, 1, "lane"), ("get", 2, 1, 1), ("get", 2, 1, 1)])

    def test_six_deep_on_either_side(self):
        right = "1"
        left = "1"
        for each in range(6):
            right, left = "+ 2 " + right, f"+ {left} 2"
        self.assert_told(right, [("num", 2, at, 2) for at in range(1, 7)] + [("num", 2, 7, 1)] + [
            ("op", 2, at, "+", at, at + 1) for at in (6, 5, 4, 3, 2, 1)
        ])
        self.assert_told(left, [("num", 2, 1, 1)] + [("num", 2, 2, 2), ("op", 2, 1, "+", 1, 2)] * 6)
        self.assertEqual(read_expression(right)[0], "+")

    def test_a_full_expression(self):
        text = "x"
        for each in range(6):
            text = f"* {text} {text}"
        self.assert_second(main("tell " + text))
        self.assert_second(main("put " + text + " " + text))


class TestSlots(RowsCase):
    def copied(self, text):
        # The slots that copy rows give: those of names, by the sets, and free ones.
        return [row[2] for row in made(read(text)) if row[0] == "copy"]

    def test_parameters_then_names_as_they_first_stand(self):
        text = texts("def main", "end", "def f b a", "set z + y a", "tell x", "set b 1", "end")
        self.assert_rows(text, [
            ("back", 2),
            ("tick", 4), ("copy", 4, 6, 4), ("copy", 4, 7, 2), ("op", 4, 6, "+", 6, 7), ("copy", 4, 3, 6),
            ("tick", 5), ("copy", 5, 6, 5), ("tell", 5, 6),
            ("tick", 6), ("num", 6, 6, 1), ("copy", 6, 1, 6), ("back", 7),
        ])
        self.assert_second(text)

    def test_names_in_ifs_and_elses_and_whiles(self):
        text = main("if c", "tell b", "else", "tell a", "end", "while d", "set e 1", "end", "put g h", "tell a")
        self.assert_second(text)
        rows = made(read(text))
        self.assertEqual([row[3] for row in rows if row[0] == "copy" and row[2] >= 8], [1, 2, 3, 4, 6, 7, 3])

    def test_a_call_gives_its_name_a_slot_first_and_its_def_none(self):
        text = texts("def main", "call x f y f", "tell f", "end", "def f a b", "end")
        self.assert_rows(text, [
            ("tick", 2), ("copy", 2, 4, 2), ("copy", 2, 5, 3), ("call", 2, 1, 4, 2, 8),
            ("tick", 3), ("copy", 3, 4, 3), ("tell", 3, 4), ("back", 4), ("back", 6),
        ])
        text = texts("def main", "call x f", "tell y", "end", "def f", "end")
        self.assertEqual(made(read(text))[1:4], [("call", 2, 1, 3, 0, 6), ("tick", 3), ("copy", 3, 3, 2)])

    def test_a_join_gives_its_name_a_slot_first(self):
        self.assertEqual(made(read(main("join x sum y")))[1:3], [("copy", 2, 3, 2), ("join", 2, 1, "sum", 3)])

    def test_defs_have_slots_of_their_own(self):
        text = texts("def main", "set x 1", "set y 2", "end", "def f y", "set x y", "end")
        self.assertEqual(self.copied(text), [1, 2, 3, 2])

    def test_a_parameter_may_be_called_like_a_def(self):
        self.assert_second(texts("def main", "call f f 1", "end", "def f f", "tell f", "end"))


class TestDefs(RowsCase):
    def test_calls_with_none_to_six_expressions(self):
        for many in range(7):
            call, begin = " ".join(["call x f"] + ["5"] * many), " ".join(["def f"] + list("abcdeg"[:many]))
            text = texts("def main", call, "end", begin, "end")
            self.assert_rows(text, [("tick", 2)] + [("num", 2, 2 + at, 5) for at in range(many)] + [
                ("call", 2, 1, 2, many, many + 3), ("back", 3), ("back", 5),
            ])

    def test_calls_with_broad_expressions_use_slots_again(self):
        text = texts("def main", "call x f + 1 2 * 3 4", "end", "def f a b", "end")
        self.assert_rows(text, [
            ("tick", 2), ("num", 2, 2, 1), ("num", 2, 3, 2), ("op", 2, 2, "+", 2, 3),
            ("num", 2, 3, 3), ("num", 2, 4, 4), ("op", 2, 3, "*", 3, 4), ("call", 2, 1, 2, 2, 9),
            ("back", 3), ("back", 5),
        ])

    def test_main_is_first_wherever_it_stands(self):
        for order in (("f", "main", "g"), ("f", "g", "main"), ("main", "f", "g"), ("g", "main", "f")):
            lines, last = [], {}
            for name in order:
                lines += [f"def {name}", "stop", "end"]
                last[name] = len(lines)
            ordered = ["main"] + [name for name in order if name != "main"]
            rows = []
            for name in ordered:
                rows += [("tick", last[name] - 1), ("stop", last[name] - 1), ("back", last[name])]
            self.assert_rows(texts(*lines), rows)

    def test_rows_that_calls_name(self):
        text = texts(
            "def g", "call x f 1", "end", "def main", "call x g", "call y f 2", "end",
            "def f a", "call a f a", "call a g", "end",
        )
        rows = made(read(text))
        self.assertEqual([row for row in rows if row[0] == "call"], [
            ("call", 5, 1, 3, 0, 6), ("call", 6, 2, 3, 1, 10), ("call", 2, 1, 2, 1, 10),
            ("call", 9, 1, 2, 1, 10), ("call", 10, 1, 2, 0, 6),
        ])
        self.assertEqual([row for row in rows if row[0] == "back"], [("back", 7), ("back", 3), ("back", 11)])
        self.assert_second(text)

    def test_returns(self):
        text = texts("def main", "end", "def f a", "if a", "return + a 1", "end", "return 0", "stop", "end")
        self.assert_rows(text, [
            ("back", 2),
            ("tick", 4), ("copy", 4, 2, 1), ("split", 4, 2, 10),
            ("tick", 5), ("copy", 5, 2, 1), ("num", 5, 3, 1), ("op", 5, 2, "+", 2, 3), ("copy", 5, 0, 2),
            ("jump", 5, 16), ("tick", 7), ("num", 7, 2, 0), ("copy", 7, 0, 2), ("jump", 7, 16),
            ("tick", 8), ("stop", 8), ("back", 9),
        ])

    def test_programs_of_all_kinds(self):
        for seed in range(250):
            self.assert_second(program_text(seed))
        for seed in range(15):
            self.assert_second(program_text(seed, most_lines=195))

    def test_a_broad_program(self):
        self.assert_second(broad_text(200, 100000))

    def test_rows_are_the_askers_own(self):
        program = read(main("if x", "else", "end"))
        kept = made(program)
        made(program).append("spoilt")
        self.assertEqual(made(program), kept)

    def test_programs_put_together_by_others(self):
        nothing = []
        program = [("f", nothing, nothing, 1, 2), ("main", nothing, [("call", 4, "x", "f", nothing)], 3, 5)]
        self.assertEqual(made(program), [("tick", 4), ("call", 4, 1, 2, 0, 3), ("back", 5), ("back", 2)])
        self.assertEqual(nothing, [])


if __name__ == "__main__":
    unittest.main()
