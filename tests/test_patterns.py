"""Patterns and codes ([31], [32])."""

import random
import unittest

from helpers import rows_below
from selfwritten.patterns import cells_of, fits, fixed, letters_of, numbers_in


def some_patterns(rng):
    width = rng.choice((4, 6, 8))
    signs = "01abcmn"[:rng.choice((2, 5, 7))]
    return ["".join(rng.choice(signs) for _ in range(width)) for _ in range(rng.choice((1, 2, 3)))]


class Letters(unittest.TestCase):
    def test_in_the_order_a_b_c_m_n(self):
        self.assertEqual(letters_of(("nmcb", "a0n1")), (("a", 1), ("b", 1), ("c", 1), ("m", 1), ("n", 2)))
        self.assertEqual(letters_of(["0101"]), ())
        self.assertEqual(letters_of(("nnnn", "nnnn", "nn00")), (("n", 10),))

    def test_fixed(self):
        self.assertEqual([fixed(("0101",)), fixed(["nn1a", "0bb0"]), fixed(("abcm",))], [4, 3, 0])


class Codes(unittest.TestCase):
    def test_fits(self):
        self.assertIs(fits("01ab", 4), True)
        self.assertIs(fits("01ab", 7), True)
        self.assertIs(fits("01ab", 8), False)
        self.assertIs(fits("01ab", 12), False)
        self.assertEqual([word for word in range(16) if fits("n0m1", word)], [1, 3, 9, 11])
        self.assertEqual([word for word in range(256) if fits("10000001", word)], [129])
        self.assertTrue(all(fits("mmmmnnnn", word) for word in range(256)))

    def test_highest_bit_first(self):
        self.assertEqual(cells_of(("0n1m", "nn10"), (1, 5)), (7, 6))
        self.assertEqual(numbers_in(("0n1m", "nn10"), (7, 6)), (1, 5))
        self.assertEqual(numbers_in(("nnnn", "nnnn"), [1, 2]), (18,))
        self.assertEqual(cells_of(("nnnn", "nnnn"), [18]), (1, 2))
        self.assertEqual((cells_of(("0110",), ()), numbers_in(("0110",), (6,))), ((6,), ()))

    def test_there_and_back(self):
        rng = random.Random(81)
        for _ in range(200):
            patterns = some_patterns(rng)
            bits = [many for _, many in letters_of(patterns)]
            for _ in range(5):
                numbers = tuple(rng.randrange(2 ** many) for many in bits)
                cells = cells_of(patterns, numbers)
                self.assertEqual(numbers_in(patterns, cells), numbers)
                self.assertTrue(all(fits(pattern, cell) for pattern, cell in zip(patterns, cells)))

    def test_each_fitting_row_is_one_code(self):
        for patterns in (("0a1b",), ("nm0n",), ("1nn0", "a00n")):
            width = [4] * len(patterns)
            rows = [row for row in rows_below(width)
                    if all(fits(pattern, cell) for pattern, cell in zip(patterns, row))]
            bits = [many for _, many in letters_of(patterns)]
            self.assertEqual(sorted(cells_of(patterns, numbers) for numbers in rows_below(bits)), rows)
            self.assertEqual(len(rows), 2 ** (4 * len(patterns) - fixed(patterns)))


if __name__ == "__main__":
    unittest.main()
