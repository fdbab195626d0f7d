"""Pools ([9] to [12])."""

import random
import unittest

from helpers import OPS, WRONG_NUMBERS, WRONG_ROWS, operation, part_of, refusal, rows_below
from helpers import term, word_of
from selfwritten.pools import Pool


class Made(unittest.TestCase):
    def test_widths(self):
        for width in range(1, 13):
            pool = Pool(width)
            self.assertEqual((pool.width, len(pool), list(pool)), (width, 0, []))

    def test_wrong_widths(self):
        for width in (0, 13, -1, *WRONG_NUMBERS):
            self.assertEqual(refusal(Pool, width), ("BadNumber", "width"), width)

    def test_ops(self):
        self.assertEqual(Pool.ops(), OPS)
        self.assertEqual(Pool(4).ops(), OPS)

    def test_numbers_in_the_order_of_making(self):
        pool = Pool(4)
        self.assertEqual([pool.num(9), pool.unknown(63), pool.num(9), pool.unknown(0)], [0, 1, 0, 2])
        self.assertEqual(list(pool), [("num", 9), ("get", 63), ("get", 0)])
        self.assertEqual([pool.part(k) for k in range(len(pool))], list(pool))

    def test_num_takes_words_only(self):
        for width in (1, 12):
            pool = Pool(width)
            self.assertEqual([pool.num(0), pool.num(2 ** width - 1)], [0, 1])
            for value in (-1, 2 ** width, *WRONG_NUMBERS):
                self.assertEqual(refusal(pool.num, value), ("BadNumber", "value"), value)
            self.assertEqual(len(pool), 2)

    def test_unknown_takes_0_to_63(self):
        pool = Pool(4)
        for number in (-1, 64, *WRONG_NUMBERS):
            self.assertEqual(refusal(pool.unknown, number), ("BadNumber", "number"), number)
        self.assertEqual(len(pool), 0)

    def test_part_numbers(self):
        pool = Pool(4)
        pool.num(3)
        for number in (-1, 1, *WRONG_NUMBERS):
            self.assertEqual(refusal(pool.part, number), ("BadPart",), number)
            self.assertEqual(refusal(pool.reached, number), ("BadPart",), number)
            self.assertEqual(refusal(pool.value, number, ()), ("BadPart",), number)
            self.assertEqual(refusal(pool.unknowns, [0, number]), ("BadPart",), number)
            self.assertEqual(refusal(pool.apply, "add", number, 0), ("BadPart",), number)
            self.assertEqual(refusal(pool.apply, "add", 0, number), ("BadPart",), number)
            self.assertEqual(refusal(pool.carry, number, 0), ("BadPart",), number)
            self.assertEqual(refusal(pool.carry, 0, number), ("BadPart",), number)
            for place in range(3):
                three = [0, 0, 0]
                three[place] = number
                self.assertEqual(refusal(pool.chosen, *three), ("BadPart",), number)
        self.assertEqual(list(pool), [("num", 3)])

    def test_refused_behind_other_parts_nothing_is_made(self):
        pool = Pool(4)
        x, y = pool.unknown(0), pool.unknown(1)
        self.assertEqual(refusal(pool.chosen, x, y, 2), ("BadPart",))
        self.assertEqual(refusal(pool.carry, x, 2), ("BadPart",))
        self.assertEqual(len(pool), 2)

    def test_wrong_operations(self):
        pool = Pool(4)
        for name in ("nand", "", "ADD", "num", "get", None, 0, True, ["add"], ("add",)):
            self.assertEqual(refusal(pool.apply, name, 0, 0), ("BadOp", name), name)

    def test_two_wrong_arguments(self):
        pool = Pool(4)
        self.assertEqual(refusal(pool.apply, "no", 5, 5), ("BadOp", "no"))
        self.assertEqual(refusal(pool.value, 5, None), ("BadPart",))

    def test_objects_own_their_rows(self):
        pool = Pool(4)
        pool.num(1)
        rows = list(pool)
        rows.append(("num", 2))
        self.assertEqual((len(pool), list(pool)), (1, [("num", 1)]))

    def test_at_most_4000_parts(self):
        pool = Pool(12)
        for value in range(3998):
            pool.num(value)
        x = pool.unknown(0)
        last = pool.apply("add", x, 1)
        self.assertEqual((last, len(pool)), (3999, 4000))
        self.assertEqual(refusal(pool.num, 3998), ("TooMany", "parts"))
        self.assertEqual(refusal(pool.unknown, 1), ("TooMany", "parts"))
        self.assertEqual(refusal(pool.apply, "add", x, 2), ("TooMany", "parts"))
        self.assertEqual(refusal(pool.apply, "sub", 0, 1), ("TooMany", "parts"))
        self.assertEqual(pool.apply("add", 1, x), last)
        self.assertEqual(pool.apply("add", 1, 2), 3)
        self.assertEqual([pool.num(3997), pool.unknown(0)], [3997, x])
        self.assertEqual(pool.value(last, [4095]), 0)
        self.assertEqual(len(pool), 4000)

    def test_parts_that_were_made_stay(self):
        pool = Pool(12)
        for value in range(1, 3998):
            pool.num(value)
        x, y = pool.unknown(0), pool.unknown(1)
        self.assertEqual(refusal(pool.chosen, x, x, y), ("TooMany", "parts"))
        self.assertEqual((len(pool), pool.part(3999)), (4000, ("xor", x, y)))

    def test_deep_terms(self):
        pool = Pool(12)
        part = pool.unknown(0)
        one = pool.unknown(1)
        for _ in range(3000):
            part = pool.apply("add", part, one)
        self.assertEqual(pool.value(part, [5, 1]), 3005)
        self.assertEqual(len(pool.reached(part)), 3002)
        self.assertEqual(pool.unknowns([part]), (0, 1))


class Apply(unittest.TestCase):
    def setUp(self):
        self.pool = Pool(4)
        self.x = self.pool.unknown(0)
        self.y = self.pool.unknown(1)
        self.zero = self.pool.num(0)
        self.full = self.pool.num(15)
        self.five = self.pool.num(5)

    def test_two_words(self):
        for name in OPS:
            for width in (1, 2, 3):
                pool = Pool(width)
                for x, y in rows_below([width, width]):
                    made = pool.apply(name, pool.num(x), pool.num(y))
                    self.assertEqual(pool.part(made), ("num", operation(name, x, y, width)))

    def test_operands_change_places(self):
        for name in ("add", "and", "or", "xor", "same"):
            made = self.pool.apply(name, self.y, self.x)
            self.assertEqual(self.pool.part(made), (name, self.x, self.y))
            self.assertEqual(self.pool.apply(name, self.x, self.y), made)

    def test_operands_stay_in_their_places(self):
        for name in ("sub", "less"):
            for one, other in ((self.x, self.y), (self.y, self.x)):
                made = self.pool.apply(name, one, other)
                self.assertEqual(self.pool.part(made), (name, one, other))

    def test_zero(self):
        apply, x, zero = self.pool.apply, self.x, self.zero
        many = len(self.pool)
        for name in ("add", "or", "xor"):
            self.assertEqual([apply(name, x, zero), apply(name, zero, x)], [x, x])
        self.assertEqual([apply("and", x, zero), apply("and", zero, x)], [zero, zero])
        self.assertEqual([apply("sub", x, zero), apply("less", x, zero)], [x, zero])
        self.assertEqual(len(self.pool), many)
        self.assertEqual(self.pool.part(apply("sub", zero, x)), ("sub", zero, x))
        self.assertEqual(self.pool.part(apply("less", zero, x)), ("less", zero, x))
        self.assertEqual(self.pool.part(apply("same", zero, x)), ("same", x, zero))

    def test_words_that_are_made_first(self):
        pool = Pool(4)
        zero, full, x = pool.num(0), pool.num(15), pool.unknown(0)
        for name in ("add", "or", "xor"):
            self.assertEqual([pool.apply(name, x, zero), pool.apply(name, zero, x)], [x, x])
        self.assertEqual([pool.apply("and", x, zero), pool.apply("and", zero, x)], [zero, zero])
        self.assertEqual([pool.apply("and", x, full), pool.apply("and", full, x)], [x, x])
        self.assertEqual([pool.apply("sub", x, zero), pool.apply("less", x, zero)], [x, zero])
        self.assertEqual(len(pool), 3)
        for name in ("sub", "less"):
            self.assertEqual(pool.part(pool.apply(name, zero, x)), (name, zero, x))

    def test_all_ones(self):
        apply, x, full = self.pool.apply, self.x, self.full
        self.assertEqual([apply("and", x, full), apply("and", full, x)], [x, x])
        self.assertEqual(self.pool.part(apply("or", x, full)), ("or", x, full))
        self.assertEqual(self.pool.part(apply("xor", full, x)), ("xor", x, full))
        self.assertEqual(self.pool.part(apply("less", full, x)), ("less", full, x))

    def test_equal_parts(self):
        pool = Pool(4)
        x = pool.unknown(0)
        self.assertEqual([pool.apply(name, x, x) for name in ("and", "or")], [x, x])
        self.assertEqual(len(pool), 1)
        self.assertEqual([pool.apply(name, x, x) for name in ("sub", "xor", "less")], [1, 1, 1])
        self.assertEqual(list(pool), [("get", 0), ("num", 0)])
        self.assertEqual((pool.apply("same", x, x), pool.part(2)), (2, ("num", 1)))
        self.assertEqual(pool.part(pool.apply("add", x, x)), ("add", x, x))

    def test_other_words_stay(self):
        for name in OPS:
            made = self.pool.apply(name, self.x, self.five)
            self.assertEqual(self.pool.part(made), (name, self.x, self.five))

    def test_width_1(self):
        pool = Pool(1)
        x, one = pool.unknown(0), pool.num(1)
        self.assertEqual([pool.apply("and", x, one), pool.apply("and", one, x)], [x, x])
        self.assertEqual(pool.apply("same", x, x), one)
        self.assertEqual(pool.part(pool.apply("add", one, x)), ("add", x, one))
        self.assertEqual(pool.part(pool.apply("add", one, one)), ("num", 0))

    def test_one_call_makes_at_most_one_part_and_again_none(self):
        rng = random.Random(11)
        for width in (1, 2, 4, 12):
            pool = Pool(width)
            for start in (pool.unknown(0), pool.unknown(1), pool.num(0), pool.num(2 ** width - 1)):
                self.assertLess(start, 4)
            for _ in range(400):
                name = rng.choice(OPS)
                one, other = rng.randrange(len(pool)), rng.randrange(len(pool))
                many = len(pool)
                made = pool.apply(name, one, other)
                self.assertIn(len(pool) - many, (0, 1))
                many = len(pool)
                self.assertEqual((pool.apply(name, one, other), len(pool)), (made, many))
            self.assertEqual(len(set(pool)), len(pool))
            for number, part in enumerate(list(pool)):
                if len(part) == 3:
                    self.assertEqual(pool.apply(*part), number)
                    self.assertLess(max(part[1:]), number)

    def test_words_of_terms(self):
        rng = random.Random(12)
        for width in (1, 2, 3):
            for _ in range(150):
                pool = Pool(width)
                tree = term(rng, 4, 2, width)
                part = part_of(pool, tree)
                for words in rows_below([width, width]):
                    self.assertEqual(pool.value(part, words), word_of(tree, words, width))

    def test_words_of_terms_at_width_12(self):
        rng = random.Random(13)
        for _ in range(150):
            pool = Pool(12)
            tree = term(rng, 5, 3, 12)
            part = part_of(pool, tree)
            for _ in range(10):
                words = [rng.choice((0, 1, 4095, rng.randrange(4096))) for _ in range(3)]
                self.assertEqual(pool.value(part, words), word_of(tree, words, 12))


class Values(unittest.TestCase):
    def setUp(self):
        self.pool = Pool(4)
        self.part = self.pool.apply("sub", self.pool.unknown(4), self.pool.unknown(1))

    def test_only_reached_entries_are_looked_at(self):
        self.assertEqual(self.pool.value(self.part, [None, 3, "a", 99, 1]), 14)
        self.assertEqual(self.pool.value(self.pool.num(7), []), 7)
        self.assertEqual(self.pool.value(self.pool.num(7), [None]), 7)

    def test_no_row(self):
        for words in WRONG_ROWS:
            self.assertEqual(refusal(self.pool.value, self.part, words), ("BadWords", -1), words)
            self.assertEqual(refusal(self.pool.value, self.pool.num(1), words), ("BadWords", -1))

    def test_least_wrong_unknown(self):
        value, part = self.pool.value, self.part
        self.assertEqual(refusal(value, part, []), ("BadWords", 1))
        self.assertEqual(refusal(value, part, [0]), ("BadWords", 1))
        self.assertEqual(refusal(value, part, [0, 0, 0, 0]), ("BadWords", 4))
        self.assertEqual(refusal(value, part, [0, 0]), ("BadWords", 4))
        self.assertEqual(refusal(value, part, [0, 16, 0, 0, 16]), ("BadWords", 1))
        self.assertEqual(refusal(value, part, [0, 15, 0, 0, -1]), ("BadWords", 4))
        for word in WRONG_NUMBERS:
            self.assertEqual(refusal(value, part, [0, 0, 0, 0, word]), ("BadWords", 4), word)

    def test_reached(self):
        pool = self.pool
        total = pool.apply("add", self.part, pool.num(3))
        self.assertEqual(pool.reached(total), (0, 1, 2, 3, 4))
        self.assertEqual(pool.reached(1), (1,))
        pool.unknown(9)
        self.assertEqual(pool.reached(self.part), (0, 1, 2))

    def test_unknowns(self):
        pool = self.pool
        self.assertEqual(pool.unknowns([self.part]), (1, 4))
        self.assertEqual(pool.unknowns(()), ())
        self.assertEqual(pool.unknowns([pool.num(3)]), ())
        self.assertEqual(pool.unknowns([pool.unknown(0), self.part, self.part]), (0, 1, 4))
        for numbers in WRONG_ROWS:
            self.assertEqual(refusal(pool.unknowns, numbers), ("BadPart",), numbers)


class ChosenAndCarry(unittest.TestCase):
    def test_parts_of_chosen_in_their_order(self):
        pool = Pool(3)
        test, one, other = pool.unknown(0), pool.unknown(1), pool.unknown(2)
        picked = pool.chosen(test, one, other)
        self.assertEqual(picked, 9)
        made = [("xor", 1, 2), ("num", 0), ("same", 0, 4), ("num", 1), ("sub", 5, 6), ("and", 3, 7), ("xor", 2, 8)]
        self.assertEqual(list(pool)[3:], made)

    def test_word_of_chosen(self):
        for width in (1, 2, 3):
            pool = Pool(width)
            picked = pool.chosen(pool.unknown(0), pool.unknown(1), pool.unknown(2))
            for words in rows_below([width] * 3):
                self.assertEqual(pool.value(picked, words), words[1] if words[0] else words[2])

    def test_chosen_of_words_and_equal_parts(self):
        pool = Pool(4)
        x = pool.unknown(0)
        for words in rows_below([4]):
            self.assertEqual(pool.value(pool.chosen(pool.num(2), pool.num(9), x), words), 9)
            self.assertEqual(pool.value(pool.chosen(x, x, x), words), words[0])
            self.assertEqual(pool.value(pool.chosen(pool.num(0), pool.num(9), x), words), words[0])

    def test_parts_of_carry(self):
        pool = Pool(4)
        x, y = pool.unknown(0), pool.unknown(1)
        self.assertEqual(pool.carry(y, x), 3)
        self.assertEqual(list(pool)[2:], [("add", x, y), ("less", 2, y)])

    def test_word_of_carry(self):
        for width in (1, 2, 3):
            pool = Pool(width)
            parts = [pool.unknown(0), pool.unknown(1), pool.num(0), pool.num(2 ** width - 1)]
            for one in parts:
                for other in parts:
                    carry = pool.carry(one, other)
                    for words in rows_below([width, width]):
                        total = pool.value(one, words) + pool.value(other, words)
                        self.assertEqual(pool.value(carry, words), int(total >= 2 ** width))


if __name__ == "__main__":
    unittest.main()
