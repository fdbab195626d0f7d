"""Fetching and its looks ([76])."""

import random
import unittest

from helpers import WRONG_NUMBERS, refusal
from model import code_of
from plain import Plain, drawn_machine, drawn_start
from selfwritten.books import Book
from selfwritten.fetching import fetch
from selfwritten.happenings import start
from selfwritten.machines import Machine
from selfwritten.memory import write_by
from worldly import machine_of

BOOK = Book(4, 1, [("one", ["0001"], ()), ("two", ["0010", "nnnn"], ()), ("six", ["0011", "01mm", "000m"], ())])


def fetched(cells, place, rights=(7,) * 8, depth=0):
    machine = Machine(BOOK, depth=depth)
    return fetch(machine, start(machine, cells, (0,), rights=rights), place)


class Fetching(unittest.TestCase):
    def test_codes_of_one_to_three_cells(self):
        self.assertEqual(fetched((0, 1), 1), (("one", ()), (("go", 0, 1), ("cell", 1, 1)), None))
        self.assertEqual(fetched((2, 9), 0), (("two", (9,)), (("go", 0, 1), ("cell", 0, 2), ("go", 0, 1), ("cell", 1, 9)),
                                              None))
        self.assertEqual(fetched((0, 3, 6, 1), 1),
                         (("six", (5,)), (("go", 0, 1), ("cell", 1, 3), ("go", 1, 1), ("cell", 2, 6), ("go", 1, 1),
                                          ("cell", 3, 1)), None))

    def test_behind_the_address_of_all_ones(self):
        cells = [6, 1] + [0] * 13 + [3]
        looks = (("go", 7, 1), ("cell", 15, 3), ("go", 0, 1), ("cell", 0, 6), ("go", 0, 1), ("cell", 1, 1))
        self.assertEqual(fetched(cells, 15), (("six", (5,)), looks, None))

    def test_no_code(self):
        self.assertEqual(fetched((9,), 0), (None, (("go", 0, 1), ("cell", 0, 9)), 9))
        looks = (("go", 0, 1), ("cell", 0, 3), ("go", 0, 1), ("cell", 1, 8))
        self.assertEqual(fetched((3, 8, 1), 0), (None, looks, 9))
        looks += (("go", 1, 1), ("cell", 2, 15))
        self.assertEqual(fetched((3, 4, 15), 0), (None, looks[:3] + (("cell", 1, 4),) + looks[4:], 9))

    def test_no_right(self):
        for right in range(8):
            rights = [6, right] + [7] * 6
            self.assertEqual(fetched((3, 3, 4, 0), 1, rights), (None, (("go", 0, 0),), 8))
            if right & 1:
                self.assertEqual(fetched((0, 0, 1), 2, rights), (("one", ()), (("go", 1, 1), ("cell", 2, 1)), None))
            else:
                self.assertEqual(fetched((0, 0, 1), 2, rights), (None, (("go", 1, 0),), 8))
        # The right is looked at ahead of each cell, and the cell is not looked at without it.
        looks = (("go", 0, 1), ("cell", 1, 3), ("go", 1, 0))
        self.assertEqual(fetched((0, 3, 4, 0), 1, [1, 6] + [7] * 6), (None, looks, 8))
        looks = (("go", 0, 1), ("cell", 0, 3), ("go", 0, 1), ("cell", 1, 4), ("go", 1, 0))
        self.assertEqual(fetched((3, 4, 0), 0, [1, 6] + [7] * 6), (None, looks, 8))

    def test_waiting_writes_are_not_looked_at(self):
        machine = Machine(BOOK, depth=1)
        world = write_by(machine, start(machine, (1,), (0,)), 0, 0, 9)
        self.assertEqual(fetch(machine, world, 0)[0], ("one", ()))
        world = write_by(machine, world, 0, 1, 2)
        self.assertEqual(fetch(machine, world, 0), (None, (("go", 0, 1), ("cell", 0, 9)), 9))

    def test_against_a_machine_of_the_tests(self):
        rng = random.Random(76)
        for number in range(60):
            machine = drawn_machine(rng, (4, 8)[number % 3 == 2])
            world = drawn_start(rng, machine)
            plain = Plain(machine, world)
            for place in range(0, 2 ** machine.word, (1, 7)[number % 3 == 2]):
                found, looks, fault = plain.fetch(place)
                instruction, told, met = fetch(machine, world, place)
                self.assertEqual((told, met), (tuple(looks), fault))
                if found is None:
                    self.assertIsNone(instruction)
                else:
                    self.assertEqual(instruction[0], found[0].name)
                    self.assertEqual(code_of(found[0], instruction[1]), tuple(found[1]))

    def test_refused(self):
        machine = Machine(BOOK)
        world = start(machine, (), (0,))
        for place in (-1, 16, *WRONG_NUMBERS):
            self.assertEqual(refusal(fetch, machine, world, place), ("BadNumber", "place"))
        self.assertEqual(refusal(fetch, machine_of(word=5), world, -1), ("BadWorld", "world"))
        self.assertEqual(refusal(fetch, machine, 3, -1), ("BadWorld", "world"))


if __name__ == "__main__":
    unittest.main()
