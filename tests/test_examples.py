"""The examples that the interface gives, as they stand there."""

import unittest

from selfwritten import errors

EXAMPLES = """
>>> from selfwritten.pools import Pool
>>> pool = Pool(4)
>>> x = pool.unknown(0)
>>> y = pool.apply("add", pool.num(3), x)
>>> (y, list(pool), pool.value(y, [14]))
(2, [('get', 0), ('num', 3), ('add', 0, 1)], 1)

>>> from selfwritten.pools import Pool
>>> pool = Pool(2)
>>> test, one, other = pool.unknown(0), pool.num(3), pool.unknown(1)
>>> picked = pool.chosen(test, one, other)
>>> (picked, pool.part(picked), pool.value(picked, [0, 2]), pool.value(picked, [1, 2]))
(9, ('xor', 2, 8), 2, 3)

>>> from selfwritten.pools import Pool
>>> from selfwritten.prefixes import part_of_words, part_text
>>> pool = Pool(4)
>>> letters = {"a": pool.unknown(0), "b": pool.unknown(1)}
>>> part = part_of_words(pool, ["sub", "add", "a", "7", "b"], letters)
>>> (part, part_text(pool, part))
(4, 'sub add g0 7 g1')

>>> from selfwritten.pools import Pool
>>> from selfwritten.prefixes import part_of_words
>>> part_of_words(Pool(4), ["add", "3"], {})
raises BadWords(2)

>>> from selfwritten.lifting import lifted
>>> from selfwritten.pools import Pool
>>> pool = Pool(6)
>>> part = lifted(pool, "sub", pool.unknown(0), pool.unknown(1), 4)
>>> (part, pool.part(part), pool.value(part, [1, 3]))
(4, ('and', 2, 3), 14)

>>> from selfwritten.bits import first_standings, is_end, next_standing
>>> from selfwritten.pools import Pool
>>> pool = Pool(2)
>>> demands = [(pool.apply("less", pool.unknown(0), pool.unknown(1)), True)]
>>> low = next_standing(pool, demands, 0, (1, 0, 0), [0, 1])
>>> high = next_standing(pool, demands, 1, low, [1, 1])
>>> (first_standings(pool, demands), low, high, is_end(pool, demands, high))
(((0, 0, 0), (1, 0, 0)), (1, 1, 1), (1, 1, 1), True)

>>> from selfwritten.groups import groups
>>> from selfwritten.pools import Pool
>>> pool = Pool(4)
>>> x, y, z = pool.unknown(0), pool.unknown(1), pool.unknown(2)
>>> groups(pool, [(x, True), (z, True), (pool.apply("xor", x, y), False)])
((0, 2), (1,))

>>> from selfwritten.pools import Pool
>>> from selfwritten.solving import how_many, solved
>>> pool = Pool(3)
>>> total = pool.apply("add", pool.unknown(0), pool.num(5))
>>> demands = [(pool.apply("same", total, pool.num(2)), True)]
>>> (solved(pool, [3], demands), solved(pool, [2], demands), how_many(pool, [3, 2], demands))
((5,), None, 4)

>>> from selfwritten.pools import Pool
>>> from selfwritten.sheets import is_sheet, sheet
>>> pool = Pool(1)
>>> x = pool.unknown(0)
>>> rows = sheet(pool, [1], [(x, True), (x, False)])
>>> (rows, is_sheet(pool, [1], [(x, True), (x, False)], rows))
((((0, 0),), ((0, 0), (1, 1))), True)

>>> from selfwritten.books import Book
>>> from selfwritten.overlaps import first_shared
>>> forms = [("one", ("00mm",), ()), ("two", ("0n10", "nn01"), ()), ("six", ("1000",), ())]
>>> first_shared(Book(4, 1, forms))
('one', 'two', (2, 1))

>>> from selfwritten.books import Book
>>> from selfwritten.codes import decoded
>>> book = Book.read("word 4\\nregisters 2\\nform add 00ab\\nform set 01a0 nnnn\\nnum n\\nput a 0\\n")
>>> decoded(book, (6, 11, 0))
(('set', (1, 11)), 2)

>>> from selfwritten.assembly import assembled, listed
>>> from selfwritten.books import Book
>>> add = ("add", ("00ab",), [("get", "a"), ("get", "b"), ("add", 0, 1), ("put", "a", 2)])
>>> go = ("go", ("0111", "nnnn"), [("num", "n"), ("goto", 0)])
>>> book = Book(4, 2, [add, go])
>>> cells = assembled(book, [("label", "top"), ("add", (1, 0)), ("go", ("top",)), ("word", 9)], place=14)
>>> [cells, listed(book, cells, place=14)]
[(2, 7, 14, 9), [(14, ('add', (1, 0)), (2,)), (15, ('go', (14,)), (7, 14)), (1, None, (9,))]]

>>> from selfwritten.books import Book
>>> from selfwritten.deeds import run_code
>>> lines = [("get", "a"), ("read", 0), ("num", 1), ("add", 1, 2), ("write", 0, 3)]
>>> book = Book(4, 2, [("bump", ("010a",), lines)])
>>> run_code(book, ("bump", (1,)), 15, (2, 6), (15,))
((('read', 6), ('write', 6, 0)), (11, 0, 15, (2, 6)))

>>> from selfwritten.books import Book
>>> from selfwritten.deeds import run_code
>>> lines = [("get", "a"), ("read", 0), ("num", 1), ("add", 1, 2), ("write", 0, 3), ("put", "a", 1)]
>>> book = Book(4, 2, [("bump", ("010a",), lines)])
>>> run_code(book, ("bump", (1,)), 15, (2, 6), (15, 0))
((('read', 6), ('write', 6, 0)), (None, 1, 0, (2, 15)))

>>> from selfwritten.books import Book
>>> from selfwritten.checking import check_book
>>> check_book(Book(4, 1, [("odd", ("1000",), [("get", 0), ("write", 0, 0), ("must", 0, 12)])]))
raises HalfDone(form='odd', code=(8,), regs=(0,))

>>> from selfwritten.books import Book
>>> from selfwritten.happenings import start
>>> from selfwritten.machines import Machine
>>> from selfwritten.memory import drained, seen, write_by
>>> machine = Machine(Book(4, 1, [("nop", ("0000",), ())]), depth=1)
>>> one = write_by(machine, start(machine, (), (0,)), 0, 3, 8)
>>> two = write_by(machine, one, 0, 3, 5)
>>> [one.cells[3], seen(machine, one, 0, 3), two.cells[3], two.processors[0].buffer, drained(two, 0).cells[3]]
[0, 8, 8, ((3, 5),), 5]

>>> from selfwritten.books import Book
>>> from selfwritten.happenings import start
>>> from selfwritten.machines import Machine
>>> book = Book(4, 1, [("nop", ("0000",), ())])
>>> machine = Machine(book, events=[(3, "key", 9), (0, "line", 0, 5), (0, "cell", 15, 4)])
>>> world = start(machine, [1, 2], [7])
>>> [machine.events, machine.next_due(1), world.cells[14:], world.processors[0].facts()]
[((0, 'line', 0, 5), (0, 'cell', 15, 4), (3, 'key', 9)), 3, (0, 4), (7, (0,), (), (5,), None, None, 0, 0, 0, 0, 0, 'on')]
"""


def raised(told, error):
    """Whether `raises X(..)` tells this error, by position or by keyword."""
    name, _, rest = told.removeprefix("raises ").partition("(")
    values, named = eval("(lambda *values, **named: (values, named))(" + rest)
    held = vars(error)
    same = tuple(held.values())[:len(values)] == values
    return same and named.items() <= held.items() and type(error).__name__ == name


class Examples(unittest.TestCase):
    def run_example(self, example):
        *lines, told = example.split("\n")
        rows = [line.removeprefix(">>> ") for line in lines]
        names = {}
        for row in rows[:-1]:
            exec(row, names)
        if not told.startswith("raises "):
            self.assertEqual(repr(eval(rows[-1], names)), told)
            return
        with self.assertRaises(errors.Refusal) as caught:
            eval(rows[-1], names)
        self.assertTrue(raised(told, caught.exception), told)

    def test_each_example(self):
        examples = EXAMPLES.strip("\n").split("\n\n")
        self.assertEqual(len(examples), 17)
        for example in examples:
            with self.subTest(example):
                self.run_example(example)


if __name__ == "__main__":
    unittest.main()
