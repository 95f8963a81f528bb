"""Promises [10] and [25], with [2]: boxes that lanes share, and the first clash of their touches."""

import itertools
import random
import unittest

from widelanes.shared import Shared


class Told:
    """Shared boxes and, beside them, a plain list of the phase's touches in which the clash is sought once more."""

    def __init__(self, boxes):
        self.shared = Shared(boxes)
        self.boxes = list(boxes)
        self.touches = []
        self.clash = None

    def touch(self, word, lane, place, line):
        for other_word, other, other_place, other_line in self.touches:
            if self.clash is None and other_place == place and other != lane and "put" in (word, other_word):
                pair = sorted([(lane, line), (other, other_line)])
                self.clash = (place,) + pair[0] + pair[1]
        self.touches.append((word, lane, place, line))

    def take(self, lane, place, line):
        self.touch("get", lane, place, line)
        return self.shared.taken(lane, place, line)

    def lay(self, lane, place, line, number):
        self.touch("put", lane, place, line)
        self.boxes[place] = number
        self.shared.laid(lane, place, line, number)

    def meet(self):
        self.touches = []
        return self.shared.met()


class SharedCase(unittest.TestCase):
    def assert_clash(self, shared, meant):
        self.assertEqual(shared.clash, meant)
        self.assertIs(type(shared.clash), type(meant))


class TestBoxes(SharedCase):
    def test_what_is_put_is_taken(self):
        shared = Shared([5, -7, 9])
        self.assertEqual([shared.taken(0, place, 2) for place in range(3)], [5, -7, 9])
        shared.laid(0, 1, 3, 12)
        self.assertEqual([shared.taken(0, place, 4) for place in range(3)], [5, 12, 9])
        shared.laid(0, 1, 5, -2147483648)
        shared.laid(0, 2, 5, 2147483647)
        self.assertEqual([shared.taken(0, place, 6) for place in range(3)], [5, -2147483648, 2147483647])
        self.assertIs(type(shared.taken(0, 1, 7)), int)
        self.assert_clash(shared, None)

    def test_what_is_put_is_taken_by_others_behind_a_meeting(self):
        shared = Shared([0, 0])
        shared.laid(1, 0, 2, 8)
        self.assertEqual(shared.met(), [8, 0])
        self.assertEqual([shared.taken(lane, 0, 3) for lane in range(8)], [8] * 8)
        self.assertEqual(shared.met(), [8, 0])
        self.assert_clash(shared, None)

    def test_no_boxes(self):
        shared = Shared([])
        self.assertEqual(shared.met(), [])
        self.assert_clash(shared, None)

    def test_the_list_handed_in_stays_as_it_was(self):
        boxes = [1, 2]
        shared = Shared(boxes)
        shared.laid(0, 0, 2, 50)
        self.assertEqual(boxes, [1, 2])
        boxes[1] = 70
        boxes.append(3)
        self.assertEqual(shared.taken(0, 1, 3), 2)
        self.assertEqual(shared.met(), [50, 2])

    def test_what_met_tells_is_a_new_list(self):
        boxes = [1, 2]
        shared = Shared(boxes)
        one, other = shared.met(), shared.met()
        self.assertIs(type(one), list)
        self.assertEqual(len({id(one), id(other), id(boxes)}), 3)
        shared.laid(0, 0, 2, 9)
        self.assertEqual((one, other), ([1, 2], [1, 2]))
        one[1] = 77
        other.append(5)
        self.assertEqual(shared.taken(0, 1, 2), 2)
        self.assertEqual(shared.met(), [9, 2])

    def test_two_objects_share_nothing(self):
        boxes = [0]
        one, other = Shared(boxes), Shared(boxes)
        one.laid(0, 0, 2, 1)
        other.laid(1, 0, 3, 2)
        self.assertEqual((one.met(), other.met()), ([1], [2]))
        self.assert_clash(one, None)
        self.assert_clash(other, None)


class TestClash(SharedCase):
    def test_takings_alone_never_clash(self):
        shared = Shared([4])
        for lane in (3, 0, 7, 0, 3):
            self.assertEqual(shared.taken(lane, 0, 2 + lane), 4)
            self.assert_clash(shared, None)

    def test_a_put_behind_a_taking(self):
        for lane, other in ((0, 1), (1, 0), (2, 7), (7, 2)):
            shared = Shared([0, 0, 0])
            shared.taken(lane, 2, 10 + lane)
            self.assert_clash(shared, None)
            shared.laid(other, 2, 20 + other, 1)
            low, high = sorted([(lane, 10 + lane), (other, 20 + other)])
            self.assert_clash(shared, (2,) + low + high)

    def test_a_taking_behind_a_put(self):
        for lane, other in ((0, 1), (1, 0), (2, 7), (7, 2)):
            shared = Shared([0, 0])
            shared.laid(lane, 1, 10 + lane, 1)
            self.assert_clash(shared, None)
            shared.taken(other, 1, 20 + other)
            low, high = sorted([(lane, 10 + lane), (other, 20 + other)])
            self.assert_clash(shared, (1,) + low + high)

    def test_two_puts(self):
        shared = Shared([0])
        shared.laid(5, 0, 3, 1)
        shared.laid(4, 0, 9, 2)
        self.assert_clash(shared, (0, 4, 9, 5, 3))

    def test_two_puts_of_the_same_number_clash(self):
        shared = Shared([6])
        shared.laid(0, 0, 3, 6)
        shared.laid(1, 0, 3, 6)
        self.assert_clash(shared, (0, 0, 3, 1, 3))

    def test_touches_of_one_lane_never_clash(self):
        shared = Shared([0])
        for line, word in enumerate(("put", "get", "put", "put", "get"), start=2):
            if word == "put":
                shared.laid(3, 0, line, line)
            else:
                shared.taken(3, 0, line)
            self.assert_clash(shared, None)

    def test_touches_of_unlike_places_never_clash(self):
        shared = Shared([0] * 32)
        for lane in range(8):
            for at in range(4):
                shared.laid(lane, 4 * lane + at, 2, 1)
                shared.taken(lane, 4 * lane + at, 3)
        self.assert_clash(shared, None)

    def test_touches_parted_by_met_never_clash(self):
        shared = Shared([0])
        shared.laid(0, 0, 2, 1)
        shared.met()
        shared.laid(1, 0, 3, 2)
        shared.met()
        shared.taken(0, 0, 4)
        shared.taken(1, 0, 4)
        shared.met()
        shared.laid(0, 0, 5, 1)
        self.assert_clash(shared, None)
        shared.taken(1, 0, 6)
        self.assert_clash(shared, (0, 0, 5, 1, 6))

    def test_the_earliest_touch_that_clashes_is_named(self):
        shared = Shared([0])
        shared.taken(2, 0, 9)
        shared.taken(1, 0, 8)
        shared.taken(2, 0, 3)
        shared.laid(0, 0, 5, 1)
        self.assert_clash(shared, (0, 0, 5, 2, 9))

    def test_earlier_touches_that_do_not_clash_are_not_named(self):
        # The lane's own, those of other places, and readings where the later touch is a reading.
        shared = Shared([0, 0])
        shared.taken(1, 0, 2)
        shared.taken(0, 0, 3)
        shared.laid(3, 1, 4, 1)
        shared.taken(2, 0, 5)
        shared.laid(0, 1, 6, 1)
        self.assert_clash(shared, (1, 0, 6, 3, 4))
        shared = Shared([0])
        shared.taken(1, 0, 2)
        shared.laid(1, 0, 3, 1)
        shared.laid(1, 0, 4, 1)
        shared.taken(2, 0, 5)
        self.assert_clash(shared, (0, 1, 3, 2, 5))

    def test_a_putting_is_named_by_its_first_touch_even_a_reading(self):
        shared = Shared([0])
        shared.taken(1, 0, 2)
        shared.laid(1, 0, 3, 1)
        shared.laid(0, 0, 7, 1)
        self.assert_clash(shared, (0, 0, 7, 1, 2))

    def test_the_first_clash_stays(self):
        shared = Shared([0, 0])
        shared.laid(4, 1, 8, 1)
        shared.laid(5, 1, 9, 1)
        for at in range(3):
            self.assert_clash(shared, (1, 4, 8, 5, 9))
            shared.laid(1, 0, 2, 1)
            shared.taken(0, 0, 2)
            shared.laid(0, 1, 2, 1)
            shared.met()

    def test_a_clash_is_there_as_soon_as_it_comes(self):
        shared = Shared([0])
        self.assertIsNone(shared.clash)
        shared.laid(0, 0, 2, 1)
        self.assertIsNone(shared.clash)
        shared.laid(1, 0, 2, 1)
        self.assertEqual(shared.clash, (0, 0, 2, 1, 2))

    def test_all_rows_of_three_touches(self):
        touches = [(word, lane, place) for word in ("get", "put") for lane in (0, 1, 2) for place in (0, 1)]
        for row in itertools.product(touches, repeat=3):
            told = Told([0, 0])
            for line, (word, lane, place) in enumerate(row, start=2):
                if word == "get":
                    told.take(lane, place, line)
                else:
                    told.lay(lane, place, line, line)
                self.assertEqual(told.shared.clash, told.clash, row)

    def test_long_rows_of_touches(self):
        for seed in range(300):
            source = random.Random(seed)
            told = Told([source.randint(-9, 9) for each in range(6)])
            for each in range(60):
                lane, line = source.randrange(8), source.randrange(2, 20)
                kind = source.choice(("get", "get", "put", "meet"))
                place = source.randrange(6) if seed % 2 else lane % 6
                number = source.randint(-9, 9)
                was_clash = told.clash is not None
                if kind == "meet":
                    boxes = told.meet()
                    self.assertTrue(was_clash or boxes == told.boxes)
                elif kind == "put":
                    told.lay(lane, place, line, number)
                else:
                    taken = told.take(lane, place, line)
                    self.assertTrue(was_clash or told.clash is not None or taken == told.boxes[place])
                self.assertEqual(told.shared.clash, told.clash, seed)


if __name__ == "__main__":
    unittest.main()
