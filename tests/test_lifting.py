"""Lifting, putting in and carrying ([14])."""

import random
import unittest

from helpers import OPS, WRONG_NUMBERS, WRONG_ROWS, operation, part_of, refusal, rows_below
from helpers import term, word_of
from selfwritten.lifting import carried, lifted, put_in
from selfwritten.pools import Pool


class Lifted(unittest.TestCase):
    def test_parts_that_are_made(self):
        for name in ("add", "sub"):
            pool = Pool(6)
            x, y = pool.unknown(0), pool.unknown(1)
            self.assertEqual(lifted(pool, name, x, y, 4), 4)
            self.assertEqual(list(pool)[2:], [(name, 0, 1), ("num", 15), ("and", 2, 3)])
        for name in ("and", "or", "xor", "less", "same"):
            pool = Pool(6)
            x, y = pool.unknown(0), pool.unknown(1)
            self.assertEqual(lifted(pool, name, x, y, 4), 2)
            self.assertEqual(list(pool)[2:], [(name, 0, 1)])

    def test_at_the_width_of_the_pool(self):
        pool = Pool(6)
        x, y = pool.unknown(0), pool.unknown(1)
        self.assertEqual(lifted(pool, "add", x, y, 6), 2)
        self.assertEqual(list(pool)[2:], [("add", 0, 1), ("num", 63)])

    def test_words_below(self):
        for name in OPS:
            for width in (1, 2, 3):
                pool = Pool(4)
                part = lifted(pool, name, pool.unknown(0), pool.unknown(1), width)
                for x, y in rows_below([width, width]):
                    self.assertEqual(pool.value(part, (x, y)), operation(name, x, y, width))

    def test_terms_of_a_lesser_width(self):
        rng = random.Random(31)
        for _ in range(100):
            pool = Pool(5)
            tree = term(rng, 4, 2, 2)

            def lift(node):
                if len(node) == 2:
                    return part_of(pool, node)
                return lifted(pool, node[0], lift(node[1]), lift(node[2]), 2)

            part = lift(tree)
            for words in rows_below([2, 2]):
                self.assertEqual(pool.value(part, words), word_of(tree, words, 2))

    def test_refusals_in_their_order(self):
        pool = Pool(6)
        x = pool.unknown(0)
        y = pool.unknown(1)
        self.assertEqual(refusal(lifted, pool, "no", 9, 9, 0), ("BadOp", "no"))
        self.assertEqual(refusal(lifted, pool, "add", 9, x, 0), ("BadPart",))
        self.assertEqual(refusal(lifted, pool, "add", x, 9, 0), ("BadPart",))
        for name in ("add", "xor"):
            for width in (0, 7, -1, *WRONG_NUMBERS):
                told = refusal(lifted, pool, name, x, y, width)
                self.assertEqual(told, ("BadNumber", "width"), width)
        self.assertEqual(len(pool), 2)


class PutIn(unittest.TestCase):
    def test_words(self):
        rng = random.Random(32)
        for _ in range(120):
            pool = Pool(2)
            part = part_of(pool, term(rng, 4, 3, 2))
            many = rng.randrange(5)
            parts = [part_of(pool, term(rng, 2, 3, 2)) for _ in range(many)]
            made = put_in(pool, part, parts)
            for words in rows_below([2, 2, 2]):
                inner = [pool.value(one, words) for one in parts] + list(words)[many:]
                self.assertEqual(pool.value(made, words), pool.value(part, inner))

    def test_parts_in_ascending_order(self):
        pool = Pool(4)
        x, y, z = pool.unknown(0), pool.unknown(1), pool.unknown(2)
        low = pool.apply("add", x, y)
        high = pool.apply("sub", low, pool.apply("and", y, z))
        many = len(pool)
        self.assertEqual(put_in(pool, high, [z]), many + 1)
        self.assertEqual(list(pool)[many:], [("add", y, z), ("sub", many, 4)])

    def test_nothing_to_put_in(self):
        pool = Pool(4)
        part = pool.apply("less", pool.unknown(3), pool.num(2))
        self.assertEqual((put_in(pool, part, []), put_in(pool, part, (1, 1, 1))), (part, part))
        self.assertEqual(len(pool), 3)

    def test_numbers_fold(self):
        pool = Pool(4)
        part = pool.apply("sub", pool.unknown(0), pool.unknown(1))
        three, five = pool.num(3), pool.num(5)
        self.assertEqual(pool.part(put_in(pool, part, [three, five])), ("num", 14))

    def test_refusals(self):
        pool = Pool(4)
        x = pool.unknown(0)
        for number in (-1, 1, *WRONG_NUMBERS):
            self.assertEqual(refusal(put_in, pool, number, [x]), ("BadPart",), number)
            self.assertEqual(refusal(put_in, pool, x, [x, number]), ("BadPart",), number)
        for parts in WRONG_ROWS:
            self.assertEqual(refusal(put_in, pool, x, parts), ("BadPart",), parts)
        self.assertEqual(len(pool), 1)


class Carried(unittest.TestCase):
    def test_parts_that_are_made(self):
        pool = Pool(6)
        x = pool.unknown(5)
        part = pool.apply("less", pool.apply("add", x, pool.num(63)), pool.num(20))
        other = Pool(4)
        self.assertEqual(carried(pool, part, other), 4)
        made = [("get", 5), ("num", 15), ("add", 0, 1), ("num", 4), ("less", 2, 3)]
        self.assertEqual(list(other), made)
        self.assertEqual(len(pool), 5)

    def test_words_modulo(self):
        rng = random.Random(33)
        for _ in range(100):
            pool = Pool(4)
            part = part_of(pool, term(rng, 4, 2, 4, ("add", "sub", "and", "or", "xor")))
            for width in (1, 2, 4):
                other = Pool(width)
                made = carried(pool, part, other)
                for _ in range(12):
                    words = [rng.randrange(16), rng.randrange(16)]
                    low = [word % 2 ** width for word in words]
                    self.assertEqual(other.value(made, low), pool.value(part, words) % 2 ** width)

    def test_to_a_wider_pool_and_to_its_own(self):
        pool = Pool(2)
        part = pool.apply("same", pool.unknown(0), pool.num(3))
        other = Pool(12)
        self.assertEqual(other.part(carried(pool, part, other)), ("same", 0, 1))
        self.assertEqual((carried(pool, part, pool), len(pool)), (part, 3))

    def test_refusals(self):
        pool, other = Pool(4), Pool(4)
        pool.unknown(0)
        other.unknown(0)
        other.unknown(1)
        for number in (-1, 1, *WRONG_NUMBERS):
            self.assertEqual(refusal(carried, pool, number, other), ("BadPart",), number)
        self.assertEqual((len(pool), len(other)), (1, 2))


if __name__ == "__main__":
    unittest.main()
