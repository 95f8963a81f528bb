"""What the tests of runs share: a run is looked at from all sides, then what is meant of it."""

from outcome_cases import OutcomeCase
from second_run import second_run, second_way

from widelanes.machine import run
from widelanes.rows import made
from widelanes.texts import read


def lanes_of(mask):
    return [lane for lane in range(mask.bit_length()) if mask >> lane & 1]


class RunCase(OutcomeCase):
    def assert_sound(self, program, mines, boxes, most, picks):
        outcome = self.asked(run, program, mines, boxes, most, picks)
        self.assert_fields(outcome, second_run(program, mines, boxes, most, picks))
        if outcome.clash is None:
            self.assert_ways(outcome, program, mines, boxes, most)
            self.assert_meetings(outcome, program)
        return outcome

    def assert_ways(self, outcome, program, mines, boxes, most):
        """Each lane's turns are just the rows of its way; the row by which it ends is its last one."""
        rows = made(program)
        for lane, mine in enumerate(mines):
            way = [(row, depth) for row, depth, mask in outcome.trace if mask >> lane & 1]
            self.assertEqual(way, second_way(program, lane, len(mines), mine, boxes, most, outcome.letters))
            self.assertEqual(rows[way[-1][0]][1], outcome.ends[lane][1])
        self.assertTrue(all(0 < mask < 2 ** len(mines) for row, depth, mask in outcome.trace))

    def assert_meetings(self, outcome, program):
        """As many letters as turns of meet and join rows, each of all lanes that make a turn then or later."""
        rows = made(program)
        left, found = 0, []
        for row, depth, mask in reversed(outcome.trace):
            left |= mask
            if rows[row][0] in ("meet", "join"):
                self.assertEqual(mask, left)
                found.append((rows[row][1], lanes_of(mask)))
        told = []
        for line, brought, held in outcome.letters:
            told.append((line, [lane for lane, n in enumerate(brought) if n is not None]))
        self.assertEqual(told, found[::-1])

    def outcome(self, text, mines=(0, 0), boxes=(), most=1000, picks=None):
        return self.assert_sound(read(text), list(mines), list(boxes), most, picks)

    def assert_outcome(self, text, meant, **handed):
        self.assert_fields(self.outcome(text, **handed), meant)

    def assert_clash(self, text, clash, letters=(), **handed):
        self.assert_clashed(self.outcome(text, **handed), clash, letters)

    def assert_turns(self, text, *meant, **handed):
        """The trace in short: (first row, last row, depth, mask) of each stretch of turns."""
        trace = []
        for first, last, depth, mask in meant:
            trace += [(row, depth, mask) for row in range(first, last + 1)]
        outcome = self.outcome(text, **handed)
        self.assertEqual(outcome.trace, trace)
        return outcome
