"""Promise [3], sentence by sentence, over many programs, numbers and picks; with [1], [2], [12], [20] and [26]."""

import random
import unittest

from program_texts import let_text, program_text
from run_cases import RunCase, lanes_of
from second_run import second_way

from widelanes.could import could
from widelanes.machine import run
from widelanes.marks import is_let, marks
from widelanes.rows import made
from widelanes.texts import read
from widelanes.together import together
from widelanes.ways import meets

FOR_ALL_PICKS = ("letters", "ends", "told", "steps", "boxes")


def some_picks(source):
    return [source.choice((0, 1, 2, -1, -2, 10 ** 59, 1 - 10 ** 59)) for each in range(source.randrange(1, 7))]


def some_numbers(source):
    mines = [source.choice((0, 1, 2, 3, -4, 7, 2 ** 40 + 1)) for each in range(source.randrange(1, 9))]
    boxes = [source.choice((0, 1, 2, -1, 2 ** 40 + 3)) for each in range(source.choice((4, 12, 16, 16, 32)))]
    return mines, boxes, source.choice((20, 100, 300, 1000))


def partings(outcome, program, mines, boxes, most):
    """The turns at which lanes go both ways of a split, by the ways of the lanes alone: (turn, row, depth, mask)."""
    rows, at, lanes, found = made(program), [0] * len(mines), len(mines), []
    ways = [second_way(program, lane, lanes, mine, boxes, most, outcome.letters) for lane, mine in enumerate(mines)]
    for turn, (row, depth, mask) in enumerate(outcome.trace):
        behind = set()
        for lane in lanes_of(mask):
            at[lane] += 1
            behind.update(ways[lane][at[lane]:at[lane] + 1])
        if rows[row][0] == "split" and len(behind) > 1:
            found.append((turn, row, depth, mask))
    return found


def lanes_left(trace):
    """For each turn, and behind the last one, the mask of the lanes that make it or a later one."""
    left = [0]
    for row, depth, mask in reversed(trace):
        left.append(left[-1] | mask)
    return left[::-1]


class WholeCase(RunCase):
    def assert_all(self, seed, program):
        """All that is promised of the runs of one program with some numbers; tells those runs."""
        source = random.Random(seed)
        mines, boxes, most = some_numbers(source)
        together_told = together(program, mines, boxes, most)
        outcomes = []
        for picks in (None, [1], some_picks(source)):
            outcome = self.assert_sound(program, mines, boxes, most, picks)
            found = self.assert_alone(outcome, program, mines, boxes, most)
            if outcome.clash is not None:
                self.assert_true_clash(outcome.clash, found, program)
                self.assertEqual(together_told.clash, min(found))
            else:
                self.assert_meet_again(outcome, program, mines, boxes, most)
            self.assertEqual(outcome.clash is None, together_told.clash is None)
            for name in FOR_ALL_PICKS:
                self.assertEqual(getattr(outcome, name), getattr(together_told, name))
            outcomes.append(outcome)
        return outcomes

    def assert_true_clash(self, clash, found, program):
        self.assertIn(clash, found)
        self.assertIn(tuple(sorted((clash[2], clash[4]))), could(program))

    def assert_meet_again(self, outcome, program, mines, boxes, most):
        """A parted group's lanes that have not ended do the meeting row together; splits without a mark never part."""
        rows, own = made(program), marks(program)
        meeting_rows, left = meets(rows), lanes_left(outcome.trace)
        for turn, row, depth, mask in partings(outcome, program, mines, boxes, most):
            self.assertIn(("row", rows[row][1]), own)
            at = turn + 1
            while left[at] & mask:
                other, other_depth, other_mask = outcome.trace[at]
                if (other, other_depth) == (meeting_rows[row], depth) and other_mask & mask:
                    self.assertEqual(other_mask & mask, left[at] & mask)
                    break
                at += 1


class TestTheWhole(WholeCase):
    def test_calm_programs(self):
        parted = 0
        for seed in range(250):
            program = read(let_text(seed))
            self.assertTrue(is_let(program))
            outcomes = self.assert_all(seed, program)
            self.assertEqual([outcome.clash for outcome in outcomes], [None] * 3)
            parted += len({mask for row, depth, mask in outcomes[0].trace}) > 2
        self.assertGreater(parted, 50)

    def test_wild_programs(self):
        clashes, letters, orders = 0, 0, 0
        for seed in range(1000, 1300):
            outcomes = self.assert_all(seed, read(let_text(seed, 0.4)))
            clashes += outcomes[0].clash is not None
            letters += outcomes[0].clash is not None and outcomes[0].letters != []
            orders += len({outcome.clash for outcome in outcomes}) > 1
        self.assertGreater(clashes, 50)
        self.assertGreater(letters, 10)
        self.assertGreater(orders, 0)

    def test_programs_of_all_kinds(self):
        count = 0
        for seed in range(300):
            program = read(program_text(seed, own=0.15))
            if is_let(program):
                self.assert_all(seed, program)
                count += 1
        self.assertGreater(count, 100)

    def test_programs_of_many_ways(self):
        kinds = ("set", "if", "if", "while", "break", "again", "return", "call", "tell", "stop", "meet")
        count = 0
        for seed in range(500):
            program = read(program_text(seed, own=0.3, most_lines=40, kinds=kinds))
            if is_let(program):
                self.assert_all(seed, program)
                count += 1
        self.assertGreater(count, 100)

    def test_long_programs(self):
        for seed in range(12):
            self.assert_all(seed, read(let_text(seed, 0.05, most_lines=190)))

    def test_the_same_is_told_each_time(self):
        for seed in range(60):
            program = read(let_text(seed, 0.2))
            mines, boxes, most = some_numbers(random.Random(seed))
            one, other = [run(program, mines, boxes, most, [1, 0]) for each in range(2)]
            self.assertEqual(vars(one), vars(other))

    def test_what_runs_of_one_program_tell_shares_nothing(self):
        for seed in range(60):
            program = read(let_text(seed, 0.2))
            mines, boxes, most = some_numbers(random.Random(seed))
            one = run(program, mines, boxes, most)
            other = run(program, mines, boxes, most)
            kept = {name: repr(value) for name, value in vars(other).items()}
            for name, value in vars(one).items():
                if isinstance(value, list):
                    value.append("spoilt")
            self.assertEqual({name: repr(value) for name, value in vars(other).items()}, kept)


if __name__ == "__main__":
    unittest.main()
