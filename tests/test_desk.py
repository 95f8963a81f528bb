"""Promises [28] and [29], with [2], [5] and [7]: a job in a text, and its answer in a text."""

import random
import unittest

from program_texts import let_text, main, program_text, texts

from widelanes.could import could
from widelanes.desk import answered
from widelanes.errors import LaneError, NoHead, NoLine, NoName, NoNest, TooMuch, Waits
from widelanes.machine import run
from widelanes.marks import is_let, waits
from widelanes.texts import read

HEAD = ("mine 3 4", "boxes 0 0", "most 100", "picks")
REFUSED = (
    (TooMuch, "\n".join(["tell 1"] * 201)), (NoLine, "def main\ntell\nend"), (NoNest, "def main"),
    (NoName, "def f\nend"),
)


def job(text=None, mine="mine 3 4", boxes="boxes 0 0", most="most 100", picks="picks"):
    return "\n".join([mine, boxes, most, picks] + ([] if text is None else [text]))


class DeskCase(unittest.TestCase):
    def assert_answer(self, asked, *lines):
        told = answered(asked)
        self.assertIs(type(told), str)
        self.assertEqual(told, "\n".join(lines))
        self.assertEqual(answered(asked), told)

    def assert_refused(self, asked, refusal):
        with self.assertRaises(LaneError) as caught:
            answered(asked)
        self.assertIs(type(caught.exception), refusal, asked[:80])
        self.assertIsInstance(caught.exception, ValueError)

    def assert_no_head(self, *lines):
        """Refused with NoHead, whatever the program's text is or would be refused with."""
        self.assert_refused("\n".join(lines), NoHead)
        for text in ("", main("tell 1"), main("if lane", "meet", "end")) + tuple(text for refusal, text in REFUSED):
            self.assert_refused("\n".join(lines + (text,)), NoHead)


class TestHeads(DeskCase):
    def assert_good(self, **heads):
        self.assertIs(type(answered(job(main(), **heads))), str)

    def assert_bad(self, **heads):
        self.assert_no_head(*job(**heads).split("\n"))

    def numbers(self, count):
        return "".join([" " + str(at) for at in range(count)])

    def test_the_fewest_and_the_most_numbers(self):
        for count in (1, 2, 7, 8):
            self.assert_good(mine="mine" + self.numbers(count))
        for count in (0, 9, 10, 33):
            self.assert_bad(mine="mine" + self.numbers(count))
        for word in ("boxes", "picks"):
            for count in (0, 1, 31, 32):
                self.assert_good(**{word: word + self.numbers(count)})
            for count in (33, 34, 100):
                self.assert_bad(**{word: word + self.numbers(count)})
        self.assert_good(most="most 5")
        self.assert_bad(most="most")
        self.assert_bad(most="most 5 5")
        self.assert_bad(most="most 5 6 7")

    def test_steps(self):
        for n in (0, 1, 999, 1000):
            self.assert_good(most=f"most {n}")
        for n in (-1, -1000, -999999999, 1001, 1002, 999999999):
            self.assert_bad(most=f"most {n}")

    def test_numbers_as_they_are_written(self):
        for n in ("0", "7", "-7", "999999999", "-999999999", "100"):
            self.assert_good(mine=f"mine {n}", boxes=f"boxes {n}", picks=f"picks {n}")
        for n in ("-0", "00", "07", "-07", "+7", "1000000000", "-1000000000", "x", "lane", "mine", "-", "--1", "1-",
                  "1.0", "1e3", "0x1", "1_0", ",", "1,", "~", "box 1", "1\t", "None"):
            for word in ("mine", "boxes", "picks", "most"):
                self.assert_bad(**{word: f"{word} {n}"})
                self.assert_bad(**{word: f"{word} 1 {n}"})
                self.assert_bad(**{word: f"{word} {n} 1"})
        self.assert_bad(most="most 01")
        self.assert_bad(most="most 01000")

    def test_a_blank_more(self):
        for word, line in (("mine", "mine 3 4"), ("boxes", "boxes 1 2"), ("boxes", "boxes"), ("most", "most 9"),
                           ("picks", "picks 1 2"), ("picks", "picks")):
            self.assert_good(**{word: line})
            self.assert_bad(**{word: " " + line})
            self.assert_bad(**{word: line + " "})
            for at, sign in enumerate(line):
                if sign == " ":
                    self.assert_bad(**{word: line[:at] + " " + line[at:]})

    def test_another_word(self):
        for word, line in zip(("mine", "boxes", "most", "picks"), ("mine 3", "boxes 3", "most 3", "picks 3")):
            for other in ("mine", "boxes", "most", "picks", "", "Mine", "MOST", "min", "minee", "box", "pick", "lane",
                          "3"):
                if other != word:
                    self.assert_bad(**{word: line.replace(word, other)})
            self.assert_bad(**{word: line.replace(" ", "")})
            self.assert_bad(**{word: "3 " + word})
            self.assert_bad(**{word: ""})
            self.assert_bad(**{word: line.upper()})

    def test_a_head_line_that_lacks(self):
        for at in range(4):
            self.assert_no_head(*HEAD[:at], *HEAD[at + 1:])
        for count in range(4):
            self.assert_refused("\n".join(HEAD[:count]), NoHead)
            self.assert_refused("\n".join(HEAD[:count] + ("",)), NoHead)
        self.assert_refused("", NoHead)
        self.assert_refused("\n", NoHead)
        self.assert_refused("\n\n\n\n\n", NoHead)
        self.assert_refused(main("tell 1"), NoHead)

    def test_a_head_line_that_stands_twice(self):
        for at in range(4):
            for to in range(5):
                lines = list(HEAD)
                lines.insert(to, HEAD[at])
                if lines[:4] != list(HEAD):
                    self.assert_no_head(*lines)
        # Behind the fourth line it is a line of the program's text, and none.
        self.assert_refused("\n".join(HEAD + (HEAD[3], main())), NoLine)

    def test_head_lines_that_change_places(self):
        for one in range(4):
            for other in range(one):
                lines = list(HEAD)
                lines[one], lines[other] = HEAD[other], HEAD[one]
                self.assert_no_head(*lines)

    def test_lines_between_and_ahead(self):
        for at in range(4):
            for line in ("", " ", "tell 1", "def main"):
                self.assert_no_head(*HEAD[:at], line, *HEAD[at:])

    def test_all_signs(self):
        for code in range(32, 127):
            sign = chr(code)
            if sign not in "0123456789":
                self.assert_bad(most="most 1" + sign)
            self.assert_bad(mine="mine" + sign)
            self.assert_bad(most=sign)


class TestPrograms(DeskCase):
    def test_each_refusal_of_the_programs_text(self):
        for refusal, text in REFUSED:
            self.assert_refused(job(text), refusal)

    def test_the_four_lines_alone(self):
        self.assert_refused(job(), NoLine)
        self.assert_refused(job(""), NoLine)

    def test_a_line_end_behind_a_good_job(self):
        self.assertIs(type(answered(job(main("tell 1")))), str)
        self.assert_refused(job(main("tell 1") + "\n"), NoLine)
        self.assert_refused(job("\n" + main("tell 1")), NoLine)

    def test_two_hundred_lines_behind_the_head(self):
        text = main(*["tell 1"] * 198)
        self.assert_answer(job(text, mine="mine 0", boxes="boxes", most="most 1000"),
                           "lane 0 done 200 198" + " 1" * 198, "boxes")
        self.assert_refused(job(main(*["tell 1"] * 199)), TooMuch)
        self.assert_refused(job(text + "\n"), TooMuch)

    def test_lines_are_numbered_in_the_programs_text(self):
        self.assert_answer(job(main("tell div 1 0")), "lane 0 nought 2 1", "lane 1 nought 2 1", "boxes 0 0")


class TestAnswers(DeskCase):
    def test_a_program_that_is_not_let(self):
        self.assert_answer(job(main("if lane", "meet", "end")), "waits 3 2")
        self.assert_answer(job(main("meet", "while mine", "if lane", "join x sum 1", "end", "end")), "waits 5 3")
        text = texts("def f", "meet", "join x sum 1", "end", "def main", "meet", "if lane", "call x f", "meet", "end",
                     "put 0 1", "end")
        self.assert_answer(job(text), "waits 2 1", "waits 3 1", "waits 9 7")
        text = texts("def main", "call x f", "end",
                     "def f", "while 1", "if mine", "return 1", "end", "meet", "end", "end")
        self.assert_answer(job(text), "waits 9 4")

    def test_nothing_else_is_told_of_a_program_that_is_not_let(self):
        text = main("put 0 1", "tell box 0", "if lane", "meet", "end")
        self.assertNotEqual(could(read(text)), [])
        self.assert_answer(job(text), "waits 5 4")

    def test_a_run_without_a_clash(self):
        text = main("tell + mine lane", "put lane mine", "tell -5")
        self.assert_answer(job(text), "lane 0 done 5 3 3 -5", "lane 1 done 5 3 5 -5", "boxes 3 4")
        text = main("put lane mine", "join x sum mine", "tell x", "tell box - 1 lane")
        self.assert_answer(job(text), "lane 0 done 6 4 7 4", "lane 1 done 6 4 7 3", "boxes 3 4")

    def test_pairs_of_lines_that_may_clash(self):
        text = main("if = lane 9", "put 0 1", "tell box 1", "end", "tell box 0")
        self.assert_answer(job(text), "could 3 3", "could 3 6", "lane 0 done 7 2 0", "lane 1 done 7 2 0", "boxes 0 0")

    def test_a_run_with_a_clash(self):
        self.assert_answer(job(main("put 1 lane")), "could 2 2", "clash 1 0 2 1 2")
        text = main("put lane 1", "meet", "tell 5", "put 1 box 0")
        self.assert_answer(job(text, mine="mine 0 0 0", boxes="boxes 0 0 0"), "could 5 5", "clash 1 0 5 1 5")

    def test_picks_are_used(self):
        text = main("if = lane 0", "put 0 1", "end", "if = lane 1", "tell box 0", "else", "tell + box 0 1", "end")
        pairs = ["could 3 3", "could 3 6", "could 3 8"]
        self.assert_answer(job(text, mine="mine 0 0 0"), *pairs, "clash 0 0 3 1 6")
        self.assert_answer(job(text, mine="mine 0 0 0", picks="picks 0 1"), *pairs, "clash 0 0 3 2 8")
        self.assert_answer(job(text, mine="mine 0 0 0", picks="picks -4 7"), *pairs, "clash 0 0 3 2 8")

    def test_steps_are_used(self):
        text = main("tell 1", "tell 2")
        self.assert_answer(job(text, most="most 0"), "lane 0 tired 2 0", "lane 1 tired 2 0", "boxes 0 0")
        self.assert_answer(job(text, most="most 1"), "lane 0 tired 3 1 1", "lane 1 tired 3 1 1", "boxes 0 0")
        self.assert_answer(job(text, most="most 2"), "lane 0 done 4 2 1 2", "lane 1 done 4 2 1 2", "boxes 0 0")
        text = main("while 1", "end")
        self.assert_answer(job(text, most="most 1000", mine="mine 0"), "lane 0 tired 2 1000", "boxes 0 0")

    def test_lanes_that_told_nothing(self):
        self.assert_answer(job(main()), "lane 0 done 2 0", "lane 1 done 2 0", "boxes 0 0")

    def test_no_boxes(self):
        self.assert_answer(job(main("tell 7"), boxes="boxes"), "lane 0 done 3 1 7", "lane 1 done 3 1 7", "boxes")
        self.assert_answer(job(main("tell box 0"), boxes="boxes", mine="mine 0"), "lane 0 outside 2 1", "boxes")

    def test_one_and_eight_lanes(self):
        self.assert_answer(job(main("tell mine"), mine="mine -999999999"), "lane 0 done 3 1 -999999999", "boxes 0 0")
        numbers = [5, -4, 3, -2, 1, 0, 999999999, -8]
        asked = job(main("tell mine"), mine="mine " + " ".join(map(str, numbers)))
        self.assert_answer(asked, *[f"lane {lane} done 3 1 {n}" for lane, n in enumerate(numbers)], "boxes 0 0")

    def test_thirty_two_boxes_and_picks(self):
        asked = job(main("put + lane 30 9"), boxes="boxes" + " -3" * 32, picks="picks" + " 1" * 32)
        self.assert_answer(asked, "lane 0 done 3 1", "lane 1 done 3 1", "boxes" + " -3" * 30 + " 9 9")

    def test_each_word_of_an_end(self):
        text = texts("def main", "if = mine 0", "stop", "end", "if = mine 1", "tell div 1 0", "end", "if = mine 2",
                     "tell box -1", "end", "if = mine 3", "call x f", "end", "if = mine 4", "while 1", "end", "end",
                     "end", "def f", "call x f", "end")
        self.assert_answer(job(text, mine="mine 0 1 2 3 4 5", most="most 50"), "lane 0 done 3 2", "lane 1 nought 6 3",
                           "lane 2 outside 9 4", "lane 3 deep 20 10", "lane 4 tired 15 50", "lane 5 done 18 5",
                           "boxes 0 0")

    def test_numbers_at_the_ends_of_the_range(self):
        text = main("set x * * 65536 16384 2", "tell x", "tell - x 1", "put lane - 0 x")
        self.assert_answer(job(text, mine="mine 0", boxes="boxes 1"), "lane 0 done 6 4 -2147483648 2147483647",
                           "boxes -2147483648")


class TestMany(DeskCase):
    def meant(self, program, mines, boxes, most, picks):
        """The answer once more, of what the other modules tell."""
        lines = []
        for line, key in waits(program):
            row = key[1] if key[0] == "row" else {each[0]: each[3] for each in program}[key[1]]
            lines.append(f"waits {line} {row}")
        if lines:
            return lines
        lines = [f"could {one} {other}" for one, other in could(program)]
        outcome = run(program, mines, boxes, most, picks)
        if outcome.clash is not None:
            return lines + ["clash {} {} {} {} {}".format(*outcome.clash)]
        for lane, (word, line) in enumerate(outcome.ends):
            told = "".join(f" {n}" for n in outcome.told[lane])
            lines.append(f"lane {lane} {word} {line} {outcome.steps[lane]}{told}")
        return lines + ["boxes" + "".join(f" {n}" for n in outcome.boxes)]

    def assert_seed(self, seed, text):
        source = random.Random(seed)
        mines = [source.randint(-3, 9) for each in range(source.randrange(1, 9))]
        boxes = [source.randint(-2, 5) for each in range(source.randrange(33))]
        picks = [source.randint(-9, 9) for each in range(source.randrange(5))]
        most = source.choice((0, 20, 200, 1000))
        heads = [" ".join([word] + [str(n) for n in numbers]) for word, numbers in (
            ("mine", mines), ("boxes", boxes), ("most", [most]), ("picks", picks))]
        meant = self.meant(read(text), mines, boxes, most, picks)
        self.assert_answer("\n".join(heads + [text]), *meant)
        return meant[-1].split(" ")[0]

    def test_programs_of_all_kinds(self):
        lasts = {self.assert_seed(seed, program_text(seed)) for seed in range(200)}
        self.assertEqual(lasts, {"waits", "clash", "boxes"})

    def test_programs_that_are_let(self):
        lasts = {self.assert_seed(seed, let_text(seed, 0.4)) for seed in range(200)}
        self.assertEqual(lasts, {"clash", "boxes"})

    def test_no_answer_is_refused_with_waits(self):
        for seed in range(60):
            text = program_text(seed)
            if not is_let(read(text)):
                try:
                    self.assertTrue(answered(job(text)).startswith("waits "))
                except Waits:
                    self.fail("a program that is not let has an answer")


if __name__ == "__main__":
    unittest.main()
