"""Promises [9], [21] and [22], with [2]: a lane alone at its meetings, given letters."""

import copy
import random
import unittest

from alone_cases import AloneCase, are_unlike, fields_of, lists_in, spoil
from program_texts import let_text, main, program_text, texts
from second_lane import FIELDS, LEAST, MOST

from widelanes.alone import alone
from widelanes.texts import read

THREE = main("put 0 1", "join x sum 10", "tell x", "put 1 2", "meet", "tell box 0", "join y ahead + x 1", "tell y",
             "put 0 y")
LETTERS = [(3, [10, 5, 7], [1, 20]), (6, [0, 0, 0], [30, 2]), (8, [23, None, 9], [40, 50]), (99, [1, 1, 1], [0, 0])]


class TestWithoutLetters(AloneCase):
    def test_the_story_ends_at_the_first_meeting(self):
        self.assert_story(THREE, {"told": [], "steps": 2, "end": None, "brought": [(3, 10)],
                                  "touches": [[("put", 0, 2)]], "puts": [{0: 1}], "lines": [2, 3]},
                          lanes=3, boxes=[0, 0])

    def test_a_meet_brings_0(self):
        self.assert_story(main("tell 1", "meet", "tell 2"), {"told": [1], "steps": 2, "end": None, "brought": [(3, 0)],
                                                             "touches": [[]], "puts": [{}], "lines": [2, 3]})

    def test_what_a_join_brings_is_reckoned(self):
        for word in ("sum", "most", "least", "ahead"):
            text = main(f"join x {word} + box 1 * 10 lane")
            self.assert_story(text, {"end": None, "brought": [(2, 24)], "touches": [[("get", 1, 2)]], "steps": 1},
                              lane=2, lanes=3, boxes=[0, 4])

    def test_a_join_that_is_not_come_to(self):
        for word in ("sum", "most", "least", "ahead"):
            self.assert_story(main(f"join x {word} div 1 0"), {"end": ("nought", 2), "brought": [], "steps": 1})
            self.assert_story(main(f"join x {word} box 9"), {"end": ("outside", 2), "brought": [], "steps": 1})
            self.assert_story(main(f"join x {word} 1"), {"end": ("tired", 2), "brought": [], "steps": 0}, most=0)
        self.assert_story(main("tell 1", "meet"), {"end": ("tired", 3), "brought": [], "steps": 1}, most=1)
        self.assert_story(main("tell 1", "meet"), {"end": None, "brought": [(3, 0)], "steps": 2}, most=2)

    def test_a_program_without_meetings_needs_no_letters(self):
        for letters in ([], LETTERS):
            self.assert_story(main("put 0 7", "tell box 0"), {"told": [7], "end": ("done", 4), "puts": [{0: 7}]},
                              lanes=3, boxes=[0, 0], letters=letters)


class TestLetters(AloneCase):
    def stories(self, lane):
        return [self.story(THREE, lane=lane, lanes=3, boxes=[0, 0], letters=LETTERS[:count]) for count in range(5)]

    def test_fewer_as_many_and_more_than_the_meetings(self):
        stories = self.stories(0)
        self.assertEqual([story.end for story in stories], [None, None, None, ("done", 11), ("done", 11)])
        self.assertEqual([story.told for story in stories], [[], [22], [22, 30], [22, 30, 0], [22, 30, 0]])
        brought = [(3, 10), (6, 0), (8, 23)]
        self.assertEqual([story.brought for story in stories], [brought[:1], brought[:2], brought, brought, brought])
        touches = [[("put", 0, 2)], [("put", 1, 5)], [("get", 0, 7)], [("put", 0, 10)]]
        self.assertEqual([story.touches for story in stories],
                         [touches[:1], touches[:2], touches[:3], touches, touches])
        puts = [{0: 1}, {1: 2}, {}, {0: 0}]
        self.assertEqual([story.puts for story in stories], [puts[:1], puts[:2], puts[:3], puts, puts])
        self.assertEqual([story.lines for story in stories],
                         [[2, 3], [2, 3, 4, 5, 6], [2, 3, 4, 5, 6, 7, 8]] + [list(range(2, 11))] * 2)
        self.assertEqual([story.steps for story in stories], [2, 5, 7, 9, 9])

    def test_what_is_given_hangs_on_the_lane(self):
        self.assertEqual(self.stories(2)[3].told, [22, 30, 23])
        self.assertEqual(self.stories(2)[3].puts, [{0: 1}, {1: 2}, {}, {0: 23}])

    def test_each_word(self):
        letter = (2, [7, None, -3, 12], [])
        given = {"sum": [16, 16, 16], "most": [12, 12, 12], "least": [-3, -3, -3], "ahead": [0, 7, 4]}
        for word, meant in given.items():
            for lane, number in zip((0, 2, 3), meant):
                self.assert_told(main(f"join x {word} 1", "tell x"), [number], lane=lane, lanes=4, letters=[letter])

    def test_sums_are_wrapped(self):
        for brought, meant in (([MOST, 1], LEAST), ([LEAST, -1], MOST), ([MOST, MOST], -2)):
            self.assert_told(main("join x sum 0", "tell x"), [meant], lanes=2, letters=[(2, brought, [])])
            text = main("join x ahead 0", "tell x")
            self.assert_told(text, [meant], lane=2, lanes=3, letters=[(2, brought + [4], [])])

    def test_what_is_given_comes_of_the_letter_whatever_the_lane_brings(self):
        text = main("join x sum 1000", "tell x")
        self.assert_story(text, {"told": [5], "brought": [(2, 1000)]}, lanes=2, letters=[(2, [2, 3], [])])

    def test_the_line_of_a_letter_is_not_looked_at(self):
        for line in (1, 2, 77, -5, 0):
            self.assert_told(main("join x sum 1", "tell x"), [4], letters=[(line, [4], [])])

    def test_a_meet_gives_nothing(self):
        text = main("set x 3", "meet", "tell x")
        self.assert_story(text, {"told": [3], "brought": [(3, 0)]}, letters=[(3, [8], [])])

    def test_lanes_that_have_ended(self):
        letters = [(line, [None, line + 3, None], []) for line in (2, 3, 4, 5)]
        text = main("join a sum 5", "join b most 6", "join c least 7", "join d ahead 8",
                    "tell a", "tell b", "tell c", "tell d", "tell lanes")
        self.assert_told(text, [5, 6, 7, 0, 3], lane=1, lanes=3, letters=letters)

    def test_the_boxes_are_those_of_the_letter_from_there_on(self):
        text = main("put 0 1", "tell box 0", "meet", "tell box 0", "tell box 1", "put 1 9", "join x sum 1",
                    "tell box 1")
        self.assert_told(text, [1, 50, 60, 80], boxes=[0, 0], letters=[(4, [0], [50, 60]), (8, [1], [70, 80])])
        story = self.story(text, boxes=[0, 0], letters=[(4, [0], [50, 60])])
        self.assertEqual((story.told, story.end, story.brought), ([1, 50, 60], None, [(4, 0), (8, 1)]))
        self.assertEqual(story.puts, [{0: 1}, {1: 9}])

    def test_numbers_at_the_ends_of_the_range(self):
        text = main("join x most 1", "tell x", "tell box 0", "tell box 1", "join x least 1", "tell x")
        letters = [(2, [LEAST, MOST], [LEAST, MOST]), (6, [MOST, LEAST], [0, 0])]
        self.assert_told(text, [MOST, LEAST, MOST, LEAST], lanes=2, boxes=[5, 5], letters=letters)

    def test_meetings_in_defs_and_whiles(self):
        text = texts("def main", "set n 3", "while n", "call x f n", "tell x", "set n - n 1", "end", "end",
                     "def f k", "join x sum k", "meet", "return + x box 0", "end")
        letters = [(10, [3, 1], [0]), (11, [0, 0], [100]), (10, [2, 2], [0]), (11, [0, 0], [200]), (10, [1, 5], [0])]
        self.assert_story(text, {"told": [104, 204], "end": None,
                                 "lines": [2] + [3, 4, 10, 11, 12, 5, 6] * 2 + [3, 4, 10, 11],
                                 "brought": [(10, 3), (11, 0), (10, 2), (11, 0), (10, 1), (11, 0)],
                                 "touches": [[], [], [("get", 0, 12)], [], [("get", 0, 12)], []]},
                          lanes=2, boxes=[0], letters=letters)
        self.assert_story(text, {"told": [104, 204, 306], "end": ("done", 8)},
                          lanes=2, boxes=[0], letters=letters + [(11, [0, 0], [300])])

    def test_names_keep_their_numbers_over_a_meeting(self):
        text = main("set x 1", "set y 2", "join x sum 5", "tell x", "tell y")
        self.assert_told(text, [9, 2], letters=[(4, [9], [])])

    def test_programs_that_are_not_let(self):
        text = main("if lane", "meet", "else", "join x sum 4", "end", "tell box 0")
        for lane, brought in ((0, (5, 4)), (1, (3, 0))):
            self.assert_story(text, {"end": None, "brought": [brought]}, lane=lane, lanes=2, boxes=[1])
            self.assert_story(text, {"end": ("done", 8), "brought": [brought], "told": [6]},
                              lane=lane, lanes=2, boxes=[1], letters=[(1, [3, 3], [6])])

    def test_two_puts_of_a_phase_leave_the_last_number(self):
        text = main("put 0 1", "put 0 2", "put 1 5", "meet", "put 0 3")
        self.assert_story(text, {"puts": [{0: 2, 1: 5}, {0: 3}],
                                 "touches": [[("put", 0, 2), ("put", 0, 3), ("put", 1, 4)], [("put", 0, 6)]]},
                          boxes=[0, 0], letters=[(5, [0], [2, 5])])

    def test_ends_of_each_kind_behind_a_letter(self):
        letters = [(2, [0], [4])]
        for line, end in (("tell div 1 0", ("nought", 3)), ("tell box 1", ("outside", 3)), ("stop", ("done", 3)),
                          ("while 1\nend", ("tired", 3)), ("meet", None), ("tell 1", ("done", 4))):
            story = self.story(main("meet", line), boxes=[0], letters=letters)
            self.assertEqual((story.end, len(story.touches), len(story.puts)), (end, 2, 2))

    def test_many_meetings(self):
        text = main("while 1", "join x sum 1", "put 0 x", "end")
        letters = [(3, [at, at], [at]) for at in range(400)]
        story = self.story(text, lanes=2, boxes=[0], letters=letters)
        self.assertEqual((story.end, story.steps, len(story.brought)), (("tired", 3), 1000, 333))
        self.assertEqual(story.puts, [{}] + [{0: 2 * at} for at in range(333)])


class TestTheAskersOwn(AloneCase):
    def test_no_list_of_a_letter_is_changed_or_told(self):
        letters = [(3, [10, 5, 7], [1, 20]), (6, [0, 0, 0], [30, 2])]
        kept = copy.deepcopy(letters)
        story = alone(read(THREE), 0, 3, 0, [0, 0], 1000, letters)
        self.assertEqual(letters, kept)
        spoil(fields_of(story, FIELDS))
        self.assertEqual(letters, kept)

    def test_the_same_list_in_several_letters(self):
        same = [4]
        text = main("meet", "put 0 9", "meet", "tell box 0", "put 0 7", "join x sum 1", "tell x", "tell box 0")
        story = alone(read(text), 0, 1, 0, same, 100, [(2, same, same), (4, same, same), (7, same, same)])
        self.assertEqual((story.told, same), ([4, 4, 4], [4]))

    def test_what_is_told_stays_whatever_is_done_later(self):
        program, boxes, letters = read(THREE), [0, 0], copy.deepcopy(LETTERS)
        one = alone(program, 0, 3, 0, boxes, 1000, letters)
        kept = copy.deepcopy(fields_of(one, FIELDS))
        other = alone(program, 0, 3, 0, boxes, 1000, letters)
        told = [fields_of(one, FIELDS), fields_of(other, FIELDS)]
        self.assertTrue(are_unlike(lists_in(told)))
        spoil(fields_of(other, FIELDS))
        spoil([boxes, letters])
        self.assertEqual(fields_of(one, FIELDS), kept)
        self.assertEqual(fields_of(alone(program, 0, 3, 0, [0, 0], 1000, LETTERS), FIELDS), kept)


def some_letters(source, lane, lanes, boxes):
    letters = []
    for each in range(source.randrange(8)):
        brought = [source.choice((None, 0, 1, -3, LEAST, MOST)) for each in range(lanes)]
        brought[lane] = source.choice((0, 5, LEAST, MOST))
        letters.append((source.randrange(300), brought, [source.choice((0, 1, 2, MOST, LEAST)) for each in boxes]))
    return letters


class TestMany(AloneCase):
    def assert_many(self, seed, text):
        source = random.Random(seed)
        lanes = source.randrange(1, 9)
        lane = source.randrange(lanes)
        boxes = [source.randint(-2, 9) for each in range(source.choice((0, 1, 4, 16, 32)))]
        mine = source.choice((0, 1, 2, -5, 10 ** 59 + 1))
        most = source.choice((5, 30, 200, 1000))
        letters = some_letters(source, lane, lanes, boxes)
        return self.assert_sound(read(text), lane, lanes, mine, boxes, most, letters)

    def test_programs_of_all_kinds(self):
        ends = {self.assert_many(seed, program_text(seed, own=0.2)).end is None for seed in range(500)}
        self.assertEqual(ends, {True, False})

    def test_programs_that_are_let(self):
        phases = {len(self.assert_many(seed, let_text(seed, 0.2)).touches) for seed in range(500)}
        self.assertLessEqual({1, 2, 3, 4, 5, 6}, phases)


if __name__ == "__main__":
    unittest.main()
