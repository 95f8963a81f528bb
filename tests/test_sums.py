"""Promise [4]: the range of numbers, and the working of a word on two of them."""

import unittest

from widelanes.sums import worked, wrapped

LEAST = -2147483648
MOST = 2147483647
SPAN = 4294967296

# Both ends and their neighbours, small numbers, numbers near the root of the range's end,
# and some ordinary ones.
NUMBERS = (
    LEAST, LEAST + 1, LEAST + 2, MOST - 2, MOST - 1, MOST,
    -3, -2, -1, 0, 1, 2, 3, -7, 7, -10, 10,
    -46342, -46341, -46340, -46339, 46339, 46340, 46341, 46342,
    -65537, -65536, -65535, 65535, 65536, 65537,
    -1073741825, -1073741824, 1073741823, 1073741824,
    -1234567890, 1234567890, -1000003, 1000003,
)
PAIRS = [(one, other) for one in NUMBERS for other in NUMBERS]


class SumsCase(unittest.TestCase):
    def assert_number(self, told, meant):
        self.assertIs(type(told), int)
        self.assertEqual(told, meant)

    def assert_wraps(self, told, n):
        # The range holds each remainder by the span once, so these two settle the number.
        self.assertIs(type(told), int)
        self.assertTrue(LEAST <= told <= MOST, (n, told))
        self.assertEqual((n - told) % SPAN, 0, (n, told))


class TestWrapped(SumsCase):
    def test_numbers_within_the_range_stay(self):
        for n in NUMBERS:
            self.assert_number(wrapped(n), n)

    def test_ends_of_the_range_and_their_neighbours(self):
        self.assert_number(wrapped(2147483646), 2147483646)
        self.assert_number(wrapped(2147483647), 2147483647)
        self.assert_number(wrapped(2147483648), -2147483648)
        self.assert_number(wrapped(2147483649), -2147483647)
        self.assert_number(wrapped(-2147483647), -2147483647)
        self.assert_number(wrapped(-2147483648), -2147483648)
        self.assert_number(wrapped(-2147483649), 2147483647)
        self.assert_number(wrapped(-2147483650), 2147483646)

    def test_nought_and_the_span(self):
        for n in (0, SPAN, -SPAN, 2 * SPAN, -2 * SPAN, SPAN * SPAN, -SPAN * SPAN):
            self.assert_number(wrapped(n), 0)

    def test_one_span_off(self):
        for n in NUMBERS:
            self.assert_number(wrapped(n + SPAN), n)
            self.assert_number(wrapped(n - SPAN), n)

    def test_many_spans_off(self):
        for times in (2, 3, 1000, 10 ** 20, 10 ** 40, 10 ** 50 - 1):
            for n in NUMBERS:
                self.assert_number(wrapped(n + times * SPAN), n)
                self.assert_number(wrapped(n - times * SPAN), n)

    def test_numbers_of_each_length_to_sixty_figures(self):
        for figures in range(1, 61):
            for n in (10 ** (figures - 1), 10 ** figures - 1, int("1234567890" * 6) // 10 ** (60 - figures)):
                self.assert_wraps(wrapped(n), n)
                self.assert_wraps(wrapped(-n), -n)

    def test_steps_over_each_seam(self):
        for seam in (MOST, LEAST, 3 * MOST, 5 * LEAST):
            for n in range(seam - 5, seam + 6):
                self.assert_wraps(wrapped(n), n)


class TestWorked(SumsCase):
    def test_sum_difference_product(self):
        for one, other in PAIRS:
            self.assert_wraps(worked("+", one, other), one + other)
            self.assert_wraps(worked("-", one, other), one - other)
            self.assert_wraps(worked("*", one, other), one * other)

    def test_ordinary_sums_differences_products(self):
        self.assert_number(worked("+", 7, -3), 4)
        self.assert_number(worked("+", -7, -3), -10)
        self.assert_number(worked("-", 3, 7), -4)
        self.assert_number(worked("-", -3, -7), 4)
        self.assert_number(worked("*", 6, 7), 42)
        self.assert_number(worked("*", -6, 7), -42)
        self.assert_number(worked("*", -6, -7), 42)

    def test_workings_that_leave_the_range(self):
        self.assert_number(worked("+", MOST, 1), LEAST)
        self.assert_number(worked("+", LEAST, -1), MOST)
        self.assert_number(worked("+", MOST, MOST), -2)
        self.assert_number(worked("+", LEAST, LEAST), 0)
        self.assert_number(worked("-", LEAST, 1), MOST)
        self.assert_number(worked("-", MOST, -1), LEAST)
        self.assert_number(worked("-", 0, LEAST), LEAST)
        self.assert_number(worked("*", 46341, 46341), -2147479015)
        self.assert_number(worked("*", 46340, 46340), 2147395600)
        self.assert_number(worked("*", 65536, 65536), 0)
        self.assert_number(worked("*", LEAST, -1), LEAST)
        self.assert_number(worked("*", LEAST, LEAST), 0)
        self.assert_number(worked("*", MOST, MOST), 1)
        self.assert_number(worked("div", LEAST, -1), LEAST)

    def test_div_with_each_mix_of_signs(self):
        for one, other, meant in (
            (7, 2, 3), (-7, 2, -4), (7, -2, -4), (-7, -2, 3),
            (6, 2, 3), (-6, 2, -3), (6, -2, -3), (-6, -2, 3),
            (1, 2, 0), (-1, 2, -1), (1, -2, -1), (-1, -2, 0),
            (0, 5, 0), (0, -5, 0), (1, MOST, 0), (-1, MOST, -1), (1, LEAST, -1),
            (MOST, LEAST, -1), (LEAST, MOST, -2), (LEAST, LEAST, 1),
            (LEAST, 1, LEAST), (MOST, 1, MOST), (MOST, -1, LEAST + 1),
        ):
            self.assert_number(worked("div", one, other), meant)

    def test_div_is_the_greatest_not_above_the_quotient(self):
        for one, other in PAIRS:
            if other != 0 and (one, other) != (LEAST, -1):
                told = worked("div", one, other)
                self.assertIs(type(told), int)
                self.assertTrue(self.not_above(told, one, other), (one, other, told))
                self.assertFalse(self.not_above(told + 1, one, other), (one, other, told))

    def not_above(self, n, one, other):
        return n * other <= one if other > 0 else n * other >= one

    def test_rem_with_each_mix_of_signs(self):
        for one, other, meant in (
            (7, 2, 1), (-7, 2, 1), (7, -2, -1), (-7, -2, -1),
            (7, 3, 1), (-7, 3, 2), (7, -3, -2), (-7, -3, -1),
            (6, 3, 0), (-6, 3, 0), (6, -3, 0), (-6, -3, 0),
            (0, 5, 0), (0, -5, 0), (LEAST, -1, 0), (LEAST, 1, 0), (MOST, -1, 0),
            (1, MOST, 1), (-1, MOST, MOST - 1), (1, LEAST, LEAST + 1), (-1, LEAST, -1),
            (MOST, LEAST, -1), (LEAST, MOST, MOST - 1), (LEAST, LEAST, 0),
        ):
            self.assert_number(worked("rem", one, other), meant)

    def test_rem_is_what_div_leaves_on_the_side_of_the_second(self):
        for one, other in PAIRS:
            if other != 0:
                told = worked("rem", one, other)
                self.assertTrue(0 <= told < other or other < told <= 0, (one, other, told))
                self.assert_wraps(told, one - other * worked("div", one, other))

    def test_div_and_rem_by_nought_have_no_number(self):
        for one in NUMBERS:
            self.assertIsNone(worked("div", one, 0))
            self.assertIsNone(worked("rem", one, 0))

    def test_the_other_words_work_with_nought(self):
        for one in NUMBERS:
            self.assert_number(worked("+", one, 0), one)
            self.assert_number(worked("-", one, 0), one)
            self.assert_number(worked("*", one, 0), 0)
            self.assert_number(worked("<", one, 0), int(one < 0))
            self.assert_number(worked("=", one, 0), int(one == 0))

    def test_less_and_equal_tell_one_or_nought(self):
        for at, one in enumerate(sorted(NUMBERS)):
            for place, other in enumerate(sorted(NUMBERS)):
                self.assert_number(worked("<", one, other), 1 if at < place else 0)
                self.assert_number(worked("=", one, other), 1 if at == place else 0)


if __name__ == "__main__":
    unittest.main()
