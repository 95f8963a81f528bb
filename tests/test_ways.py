"""Promises [17] and [18], with [2]: the rows next to a row, and the meeting row of each split."""

import copy
import unittest

from program_texts import broad_text, main, program_text, texts

from widelanes.rows import made
from widelanes.texts import read
from widelanes.ways import meets, next_rows

STRAIGHT = (
    ("tick", 1), ("num", 1, 1, 5), ("copy", 1, 1, 2), ("sign", 1, 1, "lane"), ("op", 1, 1, "+", 1, 2),
    ("get", 1, 1, 1), ("put", 1, 1, 2), ("tell", 1, 1), ("call", 1, 1, 2, 0, 17), ("join", 1, 1, "sum", 2),
    ("meet", 1), ("stop", 1),
)


def second_next(rows, k):
    row = rows[k]
    return {"back": set(), "jump": {row[-1]}, "split": {k + 1, row[-1]}}.get(row[0], {k + 1})


def reached(rows, k, barred=None):
    """All rows on ways from k, itself too, that do not go through the barred one."""
    found, due = set(), [k]
    while due:
        at = due.pop()
        if at not in found and at != barred:
            found.add(at)
            due.extend(second_next(rows, at))
    return found


def second_meet(rows, k):
    """Of the rows without which the back row is not come to, the one without which none of the others is."""
    on_ways = reached(rows, k)
    back = max(on_ways)
    needed = [d for d in on_ways if d != k and (d == back or back not in reached(rows, k, d))]
    nearest = [d for d in needed if not reached(rows, k, d) & set(needed)]
    assert len(nearest) == 1
    return nearest[0]


class WaysCase(unittest.TestCase):
    def assert_meets(self, rows, meant):
        before = copy.deepcopy(rows)
        told = meets(rows)
        self.assertIs(type(told), list)
        self.assertEqual(len(told), len(rows))
        self.assertEqual(told, meant)
        self.assertTrue(all(each is None or type(each) is int for each in told))
        self.assertEqual(rows, before)

    def assert_second(self, text):
        rows = made(read(text))
        meant = [second_meet(rows, k) if row[0] == "split" else None for k, row in enumerate(rows)]
        self.assert_meets(rows, meant)
        return [(rows[k][1], row) for k, row in enumerate(meant) if row is not None]

    def assert_lines(self, text, *meant):
        """Each split by its line, with the row that it meets at, by its line and kind."""
        rows = made(read(text))
        told = [(line, rows[row][1], rows[row][0]) for line, row in self.assert_second(text)]
        self.assertEqual(told, list(meant))


class TestNextRows(WaysCase):
    def assert_next(self, rows, k, meant):
        before = list(rows)
        told = next_rows(rows, k)
        self.assertIs(type(told), list)
        self.assertTrue(all(type(each) is int for each in told))
        self.assertEqual(told, meant)
        self.assertEqual(rows, before)

    def test_each_kind_of_row(self):
        rows = list(STRAIGHT) + [("split", 1, 1, 15), ("jump", 1, 0), ("jump", 1, 16), ("split", 1, 1, 3)]
        rows += [("back", 2), ("back", 3)]
        for k in range(12):
            self.assert_next(rows, k, [k + 1])
        self.assert_next(rows, 12, [13, 15])
        self.assert_next(rows, 13, [0])
        self.assert_next(rows, 14, [16])
        self.assert_next(rows, 15, [3, 16])
        self.assert_next(rows, 16, [])
        self.assert_next(rows, 17, [])

    def test_a_split_that_goes_to_the_next_row_tells_it_once(self):
        rows = made(read(main("if 1", "end")))
        self.assertEqual(rows[2], ("split", 2, 1, 3))
        self.assert_next(rows, 2, [3])

    def test_rows_of_programs(self):
        for seed in range(40):
            rows = made(read(program_text(seed)))
            for k in range(len(rows)):
                self.assert_next(rows, k, sorted(second_next(rows, k)))

    def test_what_is_told_is_the_askers_own(self):
        rows = made(read(main("if 1", "stop", "end")))
        for k in range(len(rows)):
            kept = next_rows(rows, k)
            next_rows(rows, k).append(99)
            self.assertEqual(next_rows(rows, k), kept)


class TestMeets(WaysCase):
    def test_rows_without_a_split(self):
        self.assert_meets(made(read(main())), [None])
        self.assert_meets(made(read(main("stop", "meet"))), [None] * 5)

    def test_if_without_else(self):
        self.assert_meets(made(read(main("if 1", "end"))), [None, None, 3, None])
        self.assert_meets(made(read(main("if 1", "stop", "end", "meet"))), [None, None, 5] + [None] * 5)

    def test_if_with_else(self):
        self.assert_meets(made(read(main("if 1", "else", "end"))), [None, None, 4, None, None])
        self.assert_lines(main("if 1", "tell 1", "else", "tell 2", "end", "meet"), (2, 7, "tick"))
        self.assert_lines(main("if 1", "tell 1", "else", "tell 2", "end"), (2, 7, "back"))
        self.assert_lines(main("if 1", "else", "tell 2", "end", "meet"), (2, 6, "tick"))

    def test_while(self):
        self.assert_meets(made(read(main("while 1", "end"))), [None, None, 4, None, None])
        self.assert_lines(main("while 1", "tell 1", "end", "meet"), (2, 5, "tick"))

    def test_while_with_break_and_again(self):
        self.assert_lines(main("while 1", "break", "end", "meet"), (2, 5, "tick"))
        self.assert_lines(main("while 1", "again", "end", "meet"), (2, 5, "tick"))
        text = main("while 1", "if 2", "break", "end", "tell 1", "end", "meet")
        self.assert_lines(text, (2, 8, "tick"), (3, 8, "tick"))
        text = main("while 1", "if 2", "again", "end", "tell 1", "end", "meet")
        self.assert_lines(text, (2, 8, "tick"), (3, 2, "tick"))
        text = main("while 1", "if 2", "break", "else", "again", "end", "tell 1", "end", "meet")
        self.assert_lines(text, (2, 10, "tick"), (3, 10, "tick"))
        self.assert_lines(main("while 1", "if 2", "tell 1", "end", "end", "meet"), (2, 7, "tick"), (3, 2, "jump"))

    def test_while_with_return(self):
        self.assert_lines(
            texts("def main", "end", "def f", "while 1", "return 1", "end", "tell 1", "end"), (4, 8, "back"),
        )
        self.assert_lines(
            texts("def main", "end", "def f", "while 1", "if 2", "return 1", "end", "end", "tell 1", "end"),
            (4, 10, "back"), (5, 10, "back"),
        )
        self.assert_lines(
            texts("def main", "end", "def f", "if 1", "return 1", "else", "return 2", "end", "tell 1", "end"),
            (4, 10, "back"),
        )

    def test_returns_that_are_never_come_to(self):
        self.assert_lines(
            texts("def main", "end", "def f", "while 1", "break", "return 1", "end", "tell 1", "end"), (4, 8, "tick"),
        )
        self.assert_lines(
            texts("def main", "end", "def f", "return 1", "if 1", "tell 1", "end", "tell 1", "end"), (5, 8, "tick"),
        )

    def test_a_stop_leads_on(self):
        self.assert_lines(main("if 1", "stop", "end", "meet"), (2, 5, "tick"))
        self.assert_lines(main("while 1", "stop", "end", "meet"), (2, 5, "tick"))

    def test_a_call_leads_on(self):
        self.assert_lines(texts("def main", "if 1", "call x f", "end", "stop", "end", "def f", "end"), (2, 5, "tick"))

    def test_splits_within_splits(self):
        text = main("if 1", "if 2", "stop", "else", "while 3", "if 4", "end", "end", "end", "tell 5",
                    "else", "end", "meet")
        self.assert_lines(text, (2, 14, "tick"), (3, 11, "tick"), (6, 11, "tick"), (7, 6, "jump"))
        text = main("while 1", "while 2", "if 3", "break", "end", "end", "if 4", "break", "end", "end")
        self.assert_lines(text, (2, 12, "back"), (3, 8, "tick"), (4, 8, "tick"), (8, 12, "back"))

    def test_each_def_by_itself(self):
        text = texts("def f", "if 1", "return 1", "end", "end", "def main", "if 2", "end", "end",
                     "def g", "while 3", "end", "end")
        self.assert_lines(text, (7, 9, "back"), (2, 5, "back"), (11, 13, "back"))

    def test_programs_of_all_kinds(self):
        for seed in range(150):
            self.assert_second(program_text(seed))
        for seed in range(150):
            self.assert_second(program_text(seed, kinds=("if", "while", "break", "again", "return", "stop", "tell")))
        for seed in range(4):
            self.assert_second(program_text(seed, most_lines=195))

    def test_many_splits(self):
        for block in ("if 1", "while 1"):
            lines = [line for each in range(64) for line in (block, "return 1", "end")]
            rows = made(read(texts("def main", "end", "def f", *lines, "end")))
            self.assertEqual([row for row in meets(rows) if row is not None], [len(rows) - 1] * 64)

    def test_a_broad_program(self):
        rows = made(read(broad_text(200, 100000)))
        self.assert_meets(rows, [None] * len(rows))

    def test_what_is_told_is_the_askers_own(self):
        rows = made(read(main("if 1", "stop", "end")))
        kept = meets(rows)
        meets(rows).append(7)
        meets(rows)[0] = 7
        self.assertEqual(meets(rows), kept)


if __name__ == "__main__":
    unittest.main()
