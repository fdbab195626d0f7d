"""Integers, words and rows of words ([1] to [4])."""

import unittest

from helpers import WRONG_NUMBERS, WRONG_ROWS, refusal
from selfwritten.widths import check_int, check_words, ones


class CheckInt(unittest.TestCase):
    def test_returns_the_value(self):
        self.assertEqual([check_int(k, -2, 2, "k") for k in range(-2, 3)], [-2, -1, 0, 1, 2])

    def test_bounds(self):
        self.assertEqual(refusal(check_int, 3, 4, 9, "low"), ("BadNumber", "low"))
        self.assertEqual(refusal(check_int, 10, 4, 9, "high"), ("BadNumber", "high"))

    def test_no_upper_bound(self):
        self.assertEqual(check_int(10 ** 40, 0, None, "k"), 10 ** 40)
        self.assertEqual(refusal(check_int, -1, 0, None, "k"), ("BadNumber", "k"))

    def test_no_integer(self):
        for value in WRONG_NUMBERS:
            self.assertEqual(refusal(check_int, value, 0, 1, "k"), ("BadNumber", "k"), value)
            self.assertEqual(refusal(check_int, value, 0, None, "k"), ("BadNumber", "k"), value)


class Ones(unittest.TestCase):
    def test_all_widths(self):
        for width in range(65):
            self.assertEqual(ones(width), 2 ** width - 1)

    def test_wrong_widths(self):
        for width in (-1, 65, *WRONG_NUMBERS):
            self.assertEqual(refusal(ones, width), ("BadNumber", "width"), width)


class CheckWords(unittest.TestCase):
    def test_returns_a_tuple(self):
        row = [0, 15, 7]
        found = check_words(row, 4, 3)
        row[0] = 9
        self.assertEqual(found, (0, 15, 7))
        self.assertEqual(check_words((), 4, None), ())
        self.assertEqual(check_words((0,), 0, 1), (0,))
        self.assertEqual(check_words([2 ** 64 - 1], 64, None), (2 ** 64 - 1,))

    def test_no_row(self):
        for row in WRONG_ROWS:
            self.assertEqual(refusal(check_words, row, 4, None), ("BadWords", -1), row)
            self.assertEqual(refusal(check_words, row, 4, 2), ("BadWords", -1), row)

    def test_wrong_length(self):
        self.assertEqual(refusal(check_words, [1, 2], 4, 3), ("BadWords", -1))
        self.assertEqual(refusal(check_words, [1, 2], 4, 0), ("BadWords", -1))
        self.assertEqual(refusal(check_words, [], 4, 1), ("BadWords", -1))

    def test_length_ahead_of_entries(self):
        self.assertEqual(refusal(check_words, [99, "a"], 4, 3), ("BadWords", -1))

    def test_first_wrong_entry(self):
        self.assertEqual(refusal(check_words, [15, 16, -1], 4, None), ("BadWords", 1))
        self.assertEqual(refusal(check_words, [0, 1, -1, 99], 4, 4), ("BadWords", 2))
        self.assertEqual(refusal(check_words, [0, 1], 0, 2), ("BadWords", 1))
        for value in WRONG_NUMBERS:
            self.assertEqual(refusal(check_words, [1, value], 4, 2), ("BadWords", 1), value)


if __name__ == "__main__":
    unittest.main()
