"""What the tests of a lane alone share: the story is looked at from all sides, then the fields that are meant."""

import copy
import unittest

from second_lane import FIELDS, second_alone

from widelanes.alone import alone
from widelanes.texts import read

ENDS = ("done", "tired", "outside", "nought", "deep")


def fields_of(thing, names):
    return {name: getattr(thing, name) for name in names}


def lists_in(value):
    """All lists and dicts within a value, itself too."""
    found = [value] if isinstance(value, (list, dict)) else []
    parts = list(value.values()) if isinstance(value, dict) else value
    if isinstance(value, (dict, list, tuple)):
        for part in parts:
            found.extend(lists_in(part))
    return found


def are_unlike(things):
    return len({id(each) for each in things}) == len(things)


def spoil(value):
    for each in lists_in(value):
        if isinstance(each, dict):
            each["spoilt"] = "spoilt"
        else:
            each.append("spoilt")


class AloneCase(unittest.TestCase):
    def is_whole(self, value):
        return type(value) is int

    def assert_kinds(self, story):
        for name in ("told", "brought", "touches", "puts", "lines"):
            self.assertIs(type(getattr(story, name)), list, name)
        self.assertIs(type(story.steps), int)
        if story.end is not None:
            self.assertIs(type(story.end), tuple)
            self.assertEqual([type(part) for part in story.end], [str, int])
            self.assertIn(story.end[0], ENDS)
        for number in story.told + story.lines:
            self.assertIs(type(number), int)
        for pair in story.brought:
            self.assertIs(type(pair), tuple)
            self.assertEqual([type(part) for part in pair], [int, int])
        for phase in story.touches:
            self.assertIs(type(phase), list)
            for touch in phase:
                self.assertIs(type(touch), tuple)
                self.assertEqual([type(part) for part in touch], [str, int, int])
        for phase in story.puts:
            self.assertIs(type(phase), dict)
            for pair in phase.items():
                self.assertEqual([type(part) for part in pair], [int, int])

    def assert_counts(self, story):
        passed = len(story.brought) - (1 if story.end is None else 0)
        self.assertEqual(len(story.touches), passed + 1)
        self.assertEqual(len(story.puts), passed + 1)
        self.assertEqual(len(story.lines), story.steps)

    def assert_sound(self, program, lane, lanes, mine, boxes, most, letters):
        """A story that keeps to [2] and [22] in its form, and is that of the second working."""
        handed = (program, lane, lanes, mine, boxes, most, letters)
        before = copy.deepcopy(handed)
        story = alone(*handed)
        self.assertEqual(handed, before)
        self.assert_kinds(story)
        self.assert_counts(story)
        told = fields_of(story, FIELDS)
        self.assertTrue(are_unlike(lists_in(told)))
        self.assertFalse({id(each) for each in lists_in(told)} & {id(each) for each in lists_in(handed)})
        self.assertEqual(told, second_alone(*copy.deepcopy(handed)))
        return story

    def story(self, text, lane=0, lanes=1, mine=0, boxes=(), most=1000, letters=()):
        return self.assert_sound(read(text), lane, lanes, mine, list(boxes), most, list(letters))

    def assert_story(self, text, meant, **handed):
        """Just those fields are looked at by hand that are meant."""
        story = self.story(text, **handed)
        self.assertEqual(fields_of(story, meant), meant, text)

    def assert_told(self, text, numbers, **handed):
        story = self.story(text, **handed)
        self.assertEqual(story.told, numbers, text)
        self.assertEqual(story.end, ("done", len(text.split("\n"))), text)
