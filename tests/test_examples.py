"""The examples that the interface gives, as they stand there."""

import unittest

from selfwritten import errors

EXAMPLES = """
>>> from selfwritten.pools import Pool
>>> pool = Pool(4)
>>> x = pool.unknown(0)
>>> y = pool.apply("add", pool.num(3), x)
>>> (y, list(pool), pool.value(y, [14]))
(2, [('get', 0), ('num', 3), ('add', 0, 1)], 1)

>>> from selfwritten.pools import Pool
>>> pool = Pool(2)
>>> test, one, other = pool.unknown(0), pool.num(3), pool.unknown(1)
>>> picked = pool.chosen(test, one, other)
>>> (picked, pool.part(picked), pool.value(picked, [0, 2]), pool.value(picked, [1, 2]))
(9, ('xor', 2, 8), 2, 3)

>>> from selfwritten.pools import Pool
>>> from selfwritten.prefixes import part_of_words, part_text
>>> pool = Pool(4)
>>> letters = {"a": pool.unknown(0), "b": pool.unknown(1)}
>>> part = part_of_words(pool, ["sub", "add", "a", "7", "b"], letters)
>>> (part, part_text(pool, part))
(4, 'sub add g0 7 g1')

>>> from selfwritten.pools import Pool
>>> from selfwritten.prefixes import part_of_words
>>> part_of_words(Pool(4), ["add", "3"], {})
raises BadWords(2)

>>> from selfwritten.lifting import lifted
>>> from selfwritten.pools import Pool
>>> pool = Pool(6)
>>> part = lifted(pool, "sub", pool.unknown(0), pool.unknown(1), 4)
>>> (part, pool.part(part), pool.value(part, [1, 3]))
(4, ('and', 2, 3), 14)

>>> from selfwritten.bits import first_standings, is_end, next_standing
>>> from selfwritten.pools import Pool
>>> pool = Pool(2)
>>> demands = [(pool.apply("less", pool.unknown(0), pool.unknown(1)), True)]
>>> low = next_standing(pool, demands, 0, (1, 0, 0), [0, 1])
>>> high = next_standing(pool, demands, 1, low, [1, 1])
>>> (first_standings(pool, demands), low, high, is_end(pool, demands, high))
(((0, 0, 0), (1, 0, 0)), (1, 1, 1), (1, 1, 1), True)

>>> from selfwritten.groups import groups
>>> from selfwritten.pools import Pool
>>> pool = Pool(4)
>>> x, y, z = pool.unknown(0), pool.unknown(1), pool.unknown(2)
>>> groups(pool, [(x, True), (z, True), (pool.apply("xor", x, y), False)])
((0, 2), (1,))

>>> from selfwritten.pools import Pool
>>> from selfwritten.solving import how_many, solved
>>> pool = Pool(3)
>>> total = pool.apply("add", pool.unknown(0), pool.num(5))
>>> demands = [(pool.apply("same", total, pool.num(2)), True)]
>>> (solved(pool, [3], demands), solved(pool, [2], demands), how_many(pool, [3, 2], demands))
((5,), None, 4)

>>> from selfwritten.pools import Pool
>>> from selfwritten.sheets import is_sheet, sheet
>>> pool = Pool(1)
>>> x = pool.unknown(0)
>>> rows = sheet(pool, [1], [(x, True), (x, False)])
>>> (rows, is_sheet(pool, [1], [(x, True), (x, False)], rows))
((((0, 0),), ((0, 0), (1, 1))), True)
"""


def raised(told, error):
    """Whether `raises X(..)` tells this error, by position or by keyword."""
    name, _, rest = told.removeprefix("raises ").partition("(")
    values, named = eval("(lambda *values, **named: (values, named))(" + rest)
    held = vars(error)
    same = tuple(held.values())[:len(values)] == values
    return same and named.items() <= held.items() and type(error).__name__ == name


class Examples(unittest.TestCase):
    def run_example(self, example):
        *lines, told = example.split("\n")
        rows = [line.removeprefix(">>> ") for line in lines]
        names = {}
        for row in rows[:-1]:
            exec(row, names)
        if not told.startswith("raises "):
            self.assertEqual(repr(eval(rows[-1], names)), told)
            return
        with self.assertRaises(errors.Refusal) as caught:
            eval(rows[-1], names)
        self.assertTrue(raised(told, caught.exception), told)

    def test_each_example(self):
        examples = EXAMPLES.strip("\n").split("\n\n")
        self.assertEqual(len(examples), 9)
        for example in examples:
            with self.subTest(example):
                self.run_example(example)


if __name__ == "__main__":
    unittest.main()
