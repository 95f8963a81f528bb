"""What the tests of outcomes share: their kinds, whose their lists are, and what lanes alone come to."""

import copy
import unittest

from alone_cases import are_unlike, fields_of, lists_in
from second_lane import LEAST, MOST, OUTCOME_FIELDS, all_clashes, wrap

from widelanes.alone import alone
from widelanes.errors import LaneError, NoHead, NoLine, NoName, NoNest, TooMuch, Waits

FIVE = OUTCOME_FIELDS[2:]


class OutcomeCase(unittest.TestCase):
    def assert_kinds(self, outcome):
        for name in ("letters",) + FIVE:
            self.assertIs(type(getattr(outcome, name)), list, name)
        for letter in outcome.letters:
            self.assertEqual([type(part) for part in letter], [int, list, list])
        for each in outcome.letters + outcome.ends + outcome.trace:
            self.assertIs(type(each), tuple)
        for end in outcome.ends:
            self.assertEqual([type(part) for part in end], [str, int])
        for turn in outcome.trace:
            self.assertEqual([type(part) for part in turn], [int, int, int])
        for told in outcome.told:
            self.assertIs(type(told), list)
        if outcome.clash is not None:
            self.assertIs(type(outcome.clash), tuple)
            self.assertEqual([type(part) for part in outcome.clash], [int] * 5)
        numbers = outcome.steps + outcome.boxes + [n for told in outcome.told for n in told]
        numbers += [n for letter in outcome.letters for n in letter[1] + letter[2] if n is not None]
        self.assertTrue(all(type(n) is int and LEAST <= n <= MOST for n in numbers))

    def asked(self, ask, *handed):
        """The outcome that is told; nothing handed in is changed, no list is told twice, none was handed in."""
        before = copy.deepcopy(handed)
        outcome = ask(*handed)
        self.assertEqual(handed, before)
        self.assert_kinds(outcome)
        told = fields_of(outcome, OUTCOME_FIELDS)
        self.assertTrue(are_unlike(lists_in(told)))
        self.assertFalse({id(each) for each in lists_in(told)} & {id(each) for each in lists_in(handed)})
        return outcome

    def assert_fields(self, outcome, meant):
        self.assertEqual(fields_of(outcome, meant), meant)

    def assert_clashed(self, outcome, clash, letters):
        self.assertEqual(outcome.clash, clash)
        self.assertEqual(outcome.letters, list(letters))
        for name in FIVE:
            self.assertEqual(getattr(outcome, name), [], name)

    def assert_refused(self, ask, program, *handed):
        before = copy.deepcopy(program)
        with self.assertRaises(Waits) as caught:
            ask(program, *handed)
        self.assertIsInstance(caught.exception, LaneError)
        self.assertIsInstance(caught.exception, ValueError)
        for other in (TooMuch, NoLine, NoNest, NoName, NoHead):
            self.assertNotIsInstance(caught.exception, other)
        self.assertEqual(program, before)

    def assert_alone(self, outcome, program, mines, boxes, most):
        """Each lane alone, given the letters, comes to the same; tells all clashes of the phase behind the letters."""
        lanes = len(mines)
        stories = [alone(program, lane, lanes, mine, boxes, most, outcome.letters) for lane, mine in enumerate(mines)]
        held = [wrap(n) for n in boxes]
        for phase, letter in enumerate(outcome.letters):
            there = {lane: story for lane, story in enumerate(stories) if len(story.touches) > phase}
            self.assertEqual(all_clashes({lane: story.touches[phase] for lane, story in there.items()}), set())
            lay(held, there, phase)
            self.assertEqual(letter[2], held)
            brought = [there[lane].brought[phase:phase + 1] if lane in there else [] for lane in range(lanes)]
            self.assertEqual([[] if n is None else [(letter[0], n)] for n in letter[1]], brought)
        last = len(outcome.letters)
        there = {lane: story for lane, story in enumerate(stories) if len(story.touches) > last}
        found = all_clashes({lane: story.touches[last] for lane, story in there.items()})
        self.assertEqual(outcome.clash is None, not found)
        if not found:
            lay(held, there, last)
            self.assert_fields(outcome, {
                "boxes": held, "ends": [story.end for story in stories], "steps": [story.steps for story in stories],
                "told": [story.told for story in stories],
            })
        return found


def lay(held, there, phase):
    for story in there.values():
        for place, number in story.puts[phase].items():
            held[place] = number
