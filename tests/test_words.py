"""Promise [5]: names, numbers and expressions, and how they are written."""

import unittest

from widelanes.errors import LaneError, NoHead, NoLine, NoName, NoNest, TooMuch, Waits
from widelanes.words import is_name, read_expression, read_number, shown_expression

KEPT = """def set put tell if else while end break again call return stop join meet lane lanes mine box div rem
sum most least ahead""".split()
LETTERS = "abcdefghijklmnopqrstuvwxyz"
SIGNS = [chr(code) for code in range(32, 127)] + ["\n"]
WORKINGS = ("+", "-", "*", "div", "rem", "<", "=")


class WordsCase(unittest.TestCase):
    def assert_refused(self, ask, text):
        with self.assertRaises(NoLine, msg=repr(text)) as taken:
            ask(text)
        self.assertIs(type(taken.exception), NoLine)
        self.assertIsInstance(taken.exception, LaneError)
        self.assertIsInstance(taken.exception, ValueError)
        for other in (TooMuch, NoNest, NoName, Waits, NoHead):
            self.assertNotIsInstance(taken.exception, other)


class TestIsName(WordsCase):
    def assert_name(self, text, meant):
        self.assertIs(is_name(text), meant, repr(text))

    def test_kept_words_are_no_names(self):
        self.assertEqual(len(KEPT), 25)
        for word in KEPT:
            self.assert_name(word, False)

    def test_kept_words_with_a_letter_less_or_more_are_names(self):
        for word in KEPT:
            self.assert_name(word[1:], word[1:] not in KEPT)
            for letter in LETTERS:
                self.assert_name(word + letter, word + letter not in KEPT)
                self.assert_name(letter + word, letter + word not in KEPT)
        self.assert_name("lane" + "s", False)
        self.assert_name("ef", True)
        self.assert_name("f", True)

    def test_one_to_eight_letters(self):
        for many in range(11):
            for letter in ("a", "m", "z"):
                self.assert_name(letter * many, 1 <= many <= 8)
        self.assert_name("abcdefgh", True)
        self.assert_name("abcdefghi", False)

    def test_each_letter_by_itself(self):
        for sign in SIGNS:
            self.assert_name(sign, sign in LETTERS)

    def test_another_sign_at_any_place(self):
        for sign in SIGNS:
            if sign not in LETTERS:
                for at in range(5):
                    self.assert_name("abcd"[:at] + sign + "abcd"[at:], False)
                    self.assert_name("a"[:at] + sign + "a"[at:], False)

    def test_names_of_python_and_of_this_package_are_names(self):
        for text in ("main", "print", "none", "tick", "num", "name", "get", "op", "copy", "back",
                     "jump", "split", "row"):
            self.assert_name(text, True)

    def test_long_texts(self):
        self.assert_name("a" * 20000, False)
        self.assert_name("\n" * 20000, False)


class TestReadNumber(WordsCase):
    def assert_read(self, text, meant):
        told = read_number(text)
        self.assertIs(type(told), int, text)
        self.assertEqual(told, meant, text)

    def test_one_to_nine_figures(self):
        for many in range(1, 10):
            for figures in ("123456789"[:many], "9" * many, "1" + "0" * (many - 1)):
                meant = sum(int(figure) * 10 ** at for at, figure in enumerate(reversed(figures)))
                self.assert_read(figures, meant)
                self.assert_read("-" + figures, -meant)

    def test_each_figure(self):
        for n in range(10):
            self.assert_read(str(n), n)
            self.assert_read("1" + str(n), 10 + n)

    def test_nought(self):
        self.assert_read("0", 0)
        for text in ("-0", "00", "-00", "000000000", "+0", "--0"):
            self.assert_refused(read_number, text)

    def test_ten_and_more_figures(self):
        for many in (10, 11, 12, 60, 5000, 20000):
            self.assert_refused(read_number, "1" * many)
            self.assert_refused(read_number, "-" + "1" * many)
            self.assert_refused(read_number, "0" * many)
        self.assert_refused(read_number, "0123456789")
        self.assert_refused(read_number, "2147483647")

    def test_a_nought_ahead(self):
        for text in ("01", "-01", "007", "012345678", "-012345678", "0-1"):
            self.assert_refused(read_number, text)

    def test_minus_twice_alone_behind_within(self):
        for text in ("-", "--", "--1", "1-", "-1-", "1-2", "---1", "- 1", "-\n1"):
            self.assert_refused(read_number, text)

    def test_no_sign_at_all(self):
        self.assert_refused(read_number, "")

    def test_blanks_and_line_ends(self):
        for gap in (" ", "\n", "  ", " \n"):
            for text in (gap, gap + "12", "1" + gap + "2", "12" + gap, gap + "-12", "-" + gap + "12", "-12" + gap):
                self.assert_refused(read_number, text)

    def test_another_sign_at_any_place(self):
        for sign in SIGNS:
            if not "0" <= sign <= "9":
                for at in range(3):
                    text = "12"[:at] + sign + "12"[at:]
                    if text != "-12":
                        self.assert_refused(read_number, text)
                if sign != "-":
                    self.assert_refused(read_number, "-" + sign)
                self.assert_refused(read_number, sign)

    def test_what_int_would_take_but_no_number_is(self):
        for text in ("1_000", "+1", "0x10", "1e3", "1.0", "0b1", "0o7", " 1", "1\n"):
            self.assert_refused(read_number, text)


def nested(word, deep, inner):
    # A text that is as deep as told, by one word, its other parts a num.
    text = inner
    for each in range(deep):
        text = f"box {text}" if word == "box" else f"{word} {text} 1"
    return text


def full(word, deep):
    return "x" if deep == 0 else f"{word} {full(word, deep - 1)} {full(word, deep - 1)}"


class TestExpressions(WordsCase):
    def assert_both_ways(self, text, expression):
        self.assertEqual(read_expression(text), expression)
        self.assertEqual(shown_expression(expression), text)
        self.assertIs(type(shown_expression(expression)), str)
        self.assert_tuples(read_expression(text))

    def assert_tuples(self, expression):
        self.assertIs(type(expression), tuple)
        self.assertIs(type(expression[0]), str)
        for part in expression[1:]:
            if expression[0] == "num":
                self.assertIs(type(part), int)
            elif expression[0] == "name":
                self.assertIs(type(part), str)
            else:
                self.assert_tuples(part)

    def test_each_kind(self):
        self.assert_both_ways("0", ("num", 0))
        self.assert_both_ways("7", ("num", 7))
        self.assert_both_ways("-7", ("num", -7))
        self.assert_both_ways("999999999", ("num", 999999999))
        self.assert_both_ways("-999999999", ("num", -999999999))
        self.assert_both_ways("x", ("name", "x"))
        self.assert_both_ways("abcdefgh", ("name", "abcdefgh"))
        self.assert_both_ways("num", ("name", "num"))
        self.assert_both_ways("name", ("name", "name"))
        self.assert_both_ways("lane", ("lane",))
        self.assert_both_ways("lanes", ("lanes",))
        self.assert_both_ways("mine", ("mine",))
        self.assert_both_ways("box 3", ("box", ("num", 3)))
        self.assert_both_ways("box x", ("box", ("name", "x")))

    def test_each_working(self):
        for word in WORKINGS:
            self.assert_both_ways(f"{word} x 2", (word, ("name", "x"), ("num", 2)))
            self.assert_both_ways(f"{word} mine box lane", (word, ("mine",), ("box", ("lane",))))

    def test_a_minus_is_a_word_or_a_sign(self):
        self.assert_both_ways("- 1 2", ("-", ("num", 1), ("num", 2)))
        self.assert_both_ways("- -1 -2", ("-", ("num", -1), ("num", -2)))
        self.assert_both_ways("- - 1 2 - -3 4", (
            "-", ("-", ("num", 1), ("num", 2)), ("-", ("num", -3), ("num", 4)),
        ))

    def test_parts_stand_first_and_second(self):
        self.assert_both_ways("+ * a b rem c d", (
            "+", ("*", ("name", "a"), ("name", "b")), ("rem", ("name", "c"), ("name", "d")),
        ))
        self.assert_both_ways("< box + lane 1 lanes", ("<", ("box", ("+", ("lane",), ("num", 1))), ("lanes",)))

    def test_boxes_in_boxes(self):
        self.assert_both_ways("box box box x", ("box", ("box", ("box", ("name", "x")))))
        self.assert_both_ways("box = box 1 box 2", ("box", ("=", ("box", ("num", 1)), ("box", ("num", 2)))))

    def test_six_deep_are_read_and_seven_are_refused(self):
        for word in WORKINGS + ("box",):
            for deep in range(7):
                text = nested(word, deep, "x")
                self.assertEqual(shown_expression(read_expression(text)), text)
            for deep in (7, 8, 9, 20):
                self.assert_refused(read_expression, nested(word, deep, "x"))

    def test_depth_is_that_of_the_deepest_part(self):
        for deep in (6, 7):
            for text in (f"+ 1 {nested('box', deep - 1, '1')}", f"+ {nested('box', deep - 1, '1')} 1",
                         f"box + {nested('-', deep - 2, 'x')} box 2", full("*", deep)):
                if deep == 6:
                    self.assertEqual(shown_expression(read_expression(text)), text)
                else:
                    self.assert_refused(read_expression, text)

    def test_long_texts_are_refused_and_not_gone_into(self):
        for text in ("box " * 4999 + "x", "+ " * 9999 + "x", "+ " * 5000 + "1 " * 4999 + "1", "1 " * 9999 + "1",
                     " " * 20000):
            self.assert_refused(read_expression, text)

    def test_a_word_left_out(self):
        for text in ("+ 1", "+", "box", "box box", "box +", "+ 1 * 2", "+ + 1 2", "= x", "rem", "div lane"):
            self.assert_refused(read_expression, text)

    def test_a_word_too_many(self):
        for text in ("1 2", "x y", "lane 1", "lanes lane", "mine 0", "box 1 2", "+ 1 2 3", "+ 1 2 +", "box box 1 box"):
            self.assert_refused(read_expression, text)

    def test_words_exchanged(self):
        for text in ("1 + 2", "1 box", "x box 1", "1 2 +", "lane +", "+ 1 box", "1 - 2"):
            self.assert_refused(read_expression, text)

    def test_blanks_and_line_ends(self):
        for text in ("", " ", "  ", " 1", "1 ", "+ 1  2", "+  1 2", " + 1 2", "+ 1 2 ", "box  1", "box 1 ", "\n", "1\n",
                     "\n1", "+ 1\n2", "+\n1 2", "box\n1", "x\n", "\nlane", "lane\n", "+ 1 2\n"):
            self.assert_refused(read_expression, text)

    def test_kept_words_where_a_name_is_asked(self):
        for word in KEPT:
            if word not in ("lane", "lanes", "mine"):
                self.assert_refused(read_expression, word)
            if word not in ("lane", "lanes", "mine", "box", "div", "rem"):
                for text in (f"box {word}", f"+ {word} 1", f"+ 1 {word}", f"{word} 1", f"{word} 1 2"):
                    self.assert_refused(read_expression, text)

    def test_other_words(self):
        for text in ("X", "x1", "1x", "/", "%", ">", "<=", "==", "+1", "+x", "-x", "abcdefghi", "1234567890", "01",
                     "-0", "(1)", "+ 1 X", "box 01", "++ 1 2", "BOX 1", "Lane", "*1 2"):
            self.assert_refused(read_expression, text)

    def test_shown_beyond_six_deep(self):
        deep = ("name", "x")
        for each in range(9):
            deep = ("box", deep)
        self.assertEqual(shown_expression(deep), "box " * 9 + "x")


if __name__ == "__main__":
    unittest.main()
