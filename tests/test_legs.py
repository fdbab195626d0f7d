"""Makers and legs ([184])."""

import random
import unittest

from helpers import WRONG_NUMBERS, WRONG_ROWS, refusal
from plain import BOOKS, drawn_machine, drawn_start
from riding import SLEEPY, drawn_pair, drawn_picks, drawn_plan, long_pair, sleepy_machine
from selfwritten.books import Book
from selfwritten.happenings import start
from selfwritten.legs import legs_run
from selfwritten.runs import run
from worldly import drawn_world, machine_of


def drawn_maker(rng, book):
    if rng.random() < 0.3:
        return None
    pair = drawn_pair(rng, book)
    return rng.choice((tuple, list))([pair, rng.randrange(1, 9), drawn_picks(rng), drawn_plan(rng, pair)])


class Legs(unittest.TestCase):
    def test_the_plain_run_to_the_greatest_moment(self):
        rng = random.Random(184)
        for _ in range(120):
            machine = drawn_machine(rng, 4)
            world = drawn_start(rng, machine) if rng.random() < 0.7 else drawn_world(rng, machine)
            legs = [(rng.randrange(60), drawn_maker(rng, machine.book)) for _ in range(rng.randrange(1, 6))]
            self.assertEqual(legs_run(machine, world, legs), run(machine, world, max(moment for moment, _ in legs)))

    def test_legs_that_are_past_and_no_legs(self):
        machine = machine_of()
        world = run(machine, start(machine, (), (0,)), 9)
        pair = long_pair(random.Random(0), machine.book, 1)
        self.assertEqual(legs_run(machine, world, ()), world)
        self.assertEqual(legs_run(machine, world, []), world)
        self.assertEqual(legs_run(machine, world, [[3, None], (9, [pair, 1, "idle", ((1, 1),)]), (0, None)]), world)
        self.assertEqual(legs_run(machine, world, ((20, None), (12, (pair, 2, (), [(2, 4)])))), run(machine, world, 20))

    def test_sleep(self):
        machine = sleepy_machine()
        world = start(machine, SLEEPY, (0, 1), vectors=(3, 3))
        pair = long_pair(random.Random(0), machine.book, 1)
        legs = [(30000, None), (70000, (pair, 4, "oldest", ((1, 4),))), (100000, None)]
        self.assertEqual(legs_run(machine, world, legs), run(machine, world, 100000))

    def test_refused(self):
        machine = machine_of()
        world = start(machine, (), (0,))
        pair = long_pair(random.Random(0), machine.book, 1, longest=4)
        other = long_pair(random.Random(0), Book(4, 1, [("nap", ("0000",), ())]), 1)
        for wrong in (None, start(machine_of(5), (), (0,)), world.changed(turn=1)):
            self.assertEqual(refusal(legs_run, machine, wrong, 0), ("BadWorld", "world"))
        for legs in WRONG_ROWS:
            self.assertEqual(refusal(legs_run, machine, world, legs), ("BadPlan", -1))
        wrong = [None, 3, (), (3,), (3, None, None), (-1, None), (3, 0), (3, ()), (3, (pair, 1, "idle")), (3, "fast"), (3, pair),
                 (3, (machine, 1, "idle", ((1, 1),))), (3, (pair, 1, "idle", ((1, 1),), 0)), {0: 1, 1: 2}]
        wrong += [(moment, None) for moment in WRONG_NUMBERS]
        for leg in wrong:
            self.assertEqual(refusal(legs_run, machine, world, [leg]), ("BadPlan", 0))
            self.assertEqual(refusal(legs_run, machine, world, [(9, None), (9, (other, 0, 0, 0)), leg, 0]), ("BadPlan", 2))

    def test_errors_of_fast_when_its_leg_begins(self):
        machine = machine_of()
        world = start(machine, (), (0,))
        pair = long_pair(random.Random(0), machine.book, 1, longest=4)
        other = long_pair(random.Random(0), Book(4, 1, [("nap", ("0000",), ())]), 1)
        for maker, told in (((other, 0, 0, 0), ("BadPair",)), ((pair, 0, 0, 0), ("BadNumber", "size")),
                            ((pair, 8, "none", 0), ("BadPlan", 0)), ((pair, 8, (), ()), ("BadPlan", -1)),
                            ((pair, 8, (), ((1, 1), (1, 5))), ("BadPlan", 1))):
            for moment in (0, 9):
                self.assertEqual(refusal(legs_run, machine, world, [(5, None), (moment, maker), (9, None)]), told)
        # The world of the first leg is not one that can be run: its error comes ahead of that of the second leg.
        two = machine_of(processors=2)
        ended = start(two, (), (0, 0))
        ended = ended.with_processor(0, ended.processors[0].changed(status="stopped"))
        self.assertEqual(refusal(legs_run, two, ended, [(3, None), (5, (other, 0, 0, 0))]), ("BadWorld", "world"))
        self.assertEqual(refusal(legs_run, two, ended, [(0, None), (0, (other, 0, 0, 0))]), ("BadPair",))
        self.assertEqual(legs_run(two, ended, [(0, None)]), ended)


if __name__ == "__main__":
    unittest.main()
