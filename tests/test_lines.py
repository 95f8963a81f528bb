"""Promise [6]: each of the fifteen kinds of line by itself, read and shown."""

import unittest

from widelanes.errors import NoLine
from widelanes.lines import read_line, shown_line

LINES = (
    ("def f", ("def", "f", [])),
    ("def f a b c d e g", ("def", "f", ["a", "b", "c", "d", "e", "g"])),
    ("set x 1", ("set", "x", ("num", 1))),
    ("put lane mine", ("put", ("lane",), ("mine",))),
    ("tell x", ("tell", ("name", "x"))),
    ("if lanes", ("if", ("lanes",))),
    ("else", ("else",)),
    ("while box 0", ("while", ("box", ("num", 0)))),
    ("end", ("end",)),
    ("break", ("break",)),
    ("again", ("again",)),
    ("call x f", ("call", "x", "f", [])),
    ("call x f 1 + 2 y 3 4 5 6", ("call", "x", "f", [
        ("num", 1), ("+", ("num", 2), ("name", "y")), ("num", 3), ("num", 4), ("num", 5), ("num", 6),
    ])),
    ("return -1", ("return", ("num", -1))),
    ("stop", ("stop",)),
    ("join x ahead 1", ("join", "x", "ahead", ("num", 1))),
    ("meet", ("meet",)),
)


class TestLines(unittest.TestCase):
    def test_each_kind_is_there(self):
        self.assertEqual(len({line[0] for text, line in LINES}), 15)

    def test_read_and_shown(self):
        for text, line in LINES:
            self.assertEqual(read_line(text), line)
            self.assertIs(type(read_line(text)), tuple)
            self.assertEqual(shown_line(line), text)

    def test_each_list_is_a_new_one(self):
        for text, line in LINES:
            for part in read_line(text):
                if isinstance(part, list):
                    part.append("spoilt")
            self.assertEqual(read_line(text), line)

    def test_a_word_more_or_less(self):
        for text, line in LINES:
            several = line[0] in ("def", "call")
            if not several or line[-1] == []:
                self.assertRaises(NoLine, read_line, text.rpartition(" ")[0])
            if not several or len(line[-1]) == 6:
                self.assertRaises(NoLine, read_line, text + " x")

    def test_blanks_line_ends_and_great_letters(self):
        for text, line in LINES:
            for other in (text + "\n", "\n" + text, text + " ", " " + text, text + "  x", text.upper()):
                self.assertRaises(NoLine, read_line, other)


if __name__ == "__main__":
    unittest.main()
