"""Promise [24], with [2], [21] and [27]: what an outcome has, and that it is the asker's own."""

import copy
import unittest

from widelanes.outcome import Outcome

FIVE = ("ends", "told", "steps", "boxes", "trace")
FIELDS = ("letters", "clash") + FIVE
CLASH = (1, 0, 4, 2, 6)


def handed():
    return {
        "letters": [(3, [5, None, -2], [0, 7]), (9, [0, None, 0], [1, 7])],
        "clash": None,
        "ends": [("done", 12), ("nought", 2), ("tired", 9)],
        "told": [[1, 2], [], [-2147483648]],
        "steps": [8, 1, 20],
        "boxes": [4, 7],
        "trace": [(0, 1, 7), (1, 1, 5), (4, 2, 1)],
    }


def made(values):
    return Outcome(*[values[field] for field in FIELDS])


def fields_of(outcome):
    return {field: getattr(outcome, field) for field in FIELDS}


def lists_in(value):
    found = [value] if isinstance(value, list) else []
    parts = value.values() if isinstance(value, dict) else value
    if isinstance(value, (dict, list, tuple)):
        for part in parts:
            found.extend(lists_in(part))
    return found


def fill(value):
    for each in lists_in(value):
        each.append("spoilt")


class TestOutcome(unittest.TestCase):
    def test_without_a_clash_all_is_told(self):
        self.assertEqual(fields_of(made(handed())), handed())

    def test_kinds_without_a_clash(self):
        outcome = made(handed())
        for field in ("letters",) + FIVE:
            self.assertIs(type(getattr(outcome, field)), list, field)
        for line, brought, boxes in outcome.letters:
            self.assertEqual((type(line), type(brought), type(boxes)), (int, list, list))
        for each in outcome.letters + outcome.ends + outcome.trace:
            self.assertIs(type(each), tuple)
        for numbers in outcome.told:
            self.assertIs(type(numbers), list)

    def test_with_a_clash_letters_and_clash_alone_are_told(self):
        values = handed()
        values["clash"] = CLASH
        outcome = made(values)
        self.assertEqual(outcome.letters, handed()["letters"])
        self.assertEqual(outcome.clash, (1, 0, 4, 2, 6))
        self.assertIs(type(outcome.clash), tuple)
        for field in FIVE:
            self.assertEqual(getattr(outcome, field), [], field)
            self.assertIs(type(getattr(outcome, field)), list, field)

    def test_a_clash_of_noughts_is_a_clash(self):
        values = handed()
        values["clash"] = (0, 0, 1, 1, 1)
        for field in FIVE:
            self.assertEqual(getattr(made(values), field), [], field)

    def test_with_a_clash_empty_lists_may_be_handed_in(self):
        outcome = Outcome(handed()["letters"], CLASH, [], [], [], [], [])
        self.assertEqual(outcome.letters, handed()["letters"])
        self.assertEqual(outcome.clash, CLASH)
        for field in FIVE:
            self.assertEqual(getattr(outcome, field), [], field)
            self.assertIs(type(getattr(outcome, field)), list, field)

    def test_no_letters_no_boxes(self):
        outcome = Outcome([], None, [("done", 2)], [[]], [0], [], [])
        self.assertEqual(
            [getattr(outcome, field) for field in FIELDS],
            [[], None, [("done", 2)], [[]], [0], [], []],
        )

    def test_making_changes_nothing_handed_in(self):
        for clash in (None, CLASH):
            values = handed()
            values["clash"] = clash
            before = copy.deepcopy(values)
            made(values)
            self.assertEqual(values, before)

    def test_changing_what_is_told_changes_nothing_else(self):
        for clash in (None, CLASH):
            values = handed()
            values["clash"] = clash
            before = copy.deepcopy(values)
            one, other = made(values), made(values)
            kept = copy.deepcopy(fields_of(other))
            fill(fields_of(one))
            self.assertEqual(values, before)
            self.assertEqual(fields_of(other), kept)
            self.assertEqual(fields_of(made(values)), kept)

    def test_changing_what_was_handed_in_changes_nothing_told(self):
        for clash in (None, CLASH):
            values = handed()
            values["clash"] = clash
            outcome = made(values)
            before = copy.deepcopy(fields_of(outcome))
            fill(values)
            self.assertEqual(fields_of(outcome), before)

    def test_no_list_is_told_twice(self):
        same = [1, 2]
        for clash in (None, CLASH):
            outcome = Outcome([(3, same, same), (4, same, same)], clash, same, [same, same], same, same, same)
            found = lists_in(fields_of(outcome)) + [same]
            self.assertEqual(len({id(each) for each in found}), len(found))

    def test_outcomes_with_a_clash_share_nothing(self):
        empty = []
        one, other = [Outcome(empty, CLASH, empty, empty, empty, empty, empty) for each in range(2)]
        fill(fields_of(one))
        self.assertEqual(empty, [])
        for field in ("letters",) + FIVE:
            self.assertEqual(getattr(other, field), [], field)

    def test_giving_a_value_to_one_object_gives_it_to_no_other(self):
        one, other = made(handed()), made(handed())
        one.clash = CLASH
        one.boxes = []
        self.assertEqual(fields_of(other), handed())
        self.assertEqual(sorted(vars(other)), sorted(FIELDS))


if __name__ == "__main__":
    unittest.main()
