"""Where desks meet, and where a fast machine would differ."""

import random
import unittest

from helpers import WRONG_NUMBERS, refusal
from plain import drawn_machine, drawn_start
from riding import SLEEPY, drawn_case, drawn_forced, drawn_pair, drawn_ways, long_pair, sleepy_machine, worlds_of
from selfwritten.desks import Desk
from selfwritten.fasts import Fast
from selfwritten.happenings import start
from selfwritten.meetings import meeting
from selfwritten.meets import desks_meet, first_unlike
from selfwritten.rows import Row
from selfwritten.runs import run
from worldly import machine_of


def own_first_unlike(machine, fast, moment):
    plain = fast.meaning()
    for at in range(plain.moment + 1, moment + 1):
        plain = run(machine, plain, at)
        if fast.run(at) != plain:
            return at
    return None


class Meets(unittest.TestCase):
    def test_desks_meet(self):
        rng = random.Random(210)
        told = set()
        for _ in range(160):
            machine = drawn_machine(rng, 4)
            world = drawn_start(rng, machine)
            pair = drawn_pair(rng, machine.book)
            one, other = Desk(machine, world), Desk(machine, world, fast=(pair, 2, (), ((1, 1),)))
            for desk in (one, other):
                desk.stand_at(rng.choice((4, 4, 4, 5)))
                if rng.random() < 0.7:
                    desk.put_cell(rng.randrange(16), rng.randrange(16))
            before = [(desk.here, desk.gone, desk.kept_moments()) for desk in (one, other)]
            moment = rng.choice((0, 9, 50))
            if one.here.moment != other.here.moment:
                self.assertEqual(refusal(desks_meet, one, other, moment), ("BadWorld", "moment"))
            else:
                found = desks_meet(one, other, moment)
                self.assertEqual(found, meeting(machine, one.here, other.here, moment))
                told.add(found)
            self.assertEqual([(desk.here, desk.gone, desk.kept_moments()) for desk in (one, other)], before)
        self.assertIn(None, told)
        self.assertGreater(len(told), 2)
        for moment in (-1, *WRONG_NUMBERS):
            self.assertEqual(refusal(desks_meet, one, one, moment), ("BadNumber", "moment"))

    def test_none_without_forced_rows(self):
        rng = random.Random(1210)
        for _ in range(60):
            machine, pair, world = drawn_case(rng)
            fast = Fast(machine, pair, world, **drawn_ways(rng, machine, pair, worlds_of(machine, world, 50)))
            for _ in range(rng.randrange(60)):
                fast.deed(30)
            self.assertIsNone(first_unlike(machine, fast, rng.choice((0, 20, 60))))

    def test_forced_rows_that_do_something_else(self):
        rng = random.Random(2210)
        told = {}
        for _ in range(200):
            machine, pair, world = drawn_case(rng)
            worlds = worlds_of(machine, world, 50)
            forced = []
            for _ in range(4):
                forced += drawn_forced(rng, machine, pair, worlds)
            ways = drawn_ways(rng, machine, pair, worlds)
            one, other = [Fast(machine, pair, world, **dict(ways, forced=forced)) for _ in range(2)]
            wanted = own_first_unlike(machine, one, 40)
            self.assertEqual(first_unlike(machine, other, 40), wanted)
            self.assertEqual(one.world, other.world)
            told[wanted] = told.get(wanted, 0) + 1
        self.assertGreater(len(told), 6, told)

    def test_a_row_that_hands_over_another_place(self):
        machine = machine_of()
        pair = long_pair(random.Random(0), machine.book, 1)
        world = start(machine, (), (0,))
        row = Row([("end",)], [("num", 5), ("num", 9), ("slot", 0)], [(0, 2), (1, 2)])
        self.assertEqual(first_unlike(machine, Fast(machine, pair, world, forced=[((5,), row)]), 40), 6)
        self.assertIsNone(first_unlike(machine, Fast(machine, pair, world, forced=[((5,), row)]), 5))
        self.assertIsNone(first_unlike(machine, Fast(machine, pair, world, forced=[((5,), row)]), 0))

    def test_runs_that_end(self):
        machine = machine_of()
        pair = long_pair(random.Random(0), machine.book, 1)
        world = start(machine, (0, 0, 9), (0,))
        self.assertIsNone(first_unlike(machine, Fast(machine, pair, world), 100000))
        # A row that goes by the place without a code: the plain run is over, the other one is not.
        row = Row([("end",)], [("num", 1), ("num", 3), ("slot", 0)], [(0, 2), (1, 2)])
        self.assertEqual(first_unlike(machine, Fast(machine, pair, world, forced=[((1,), row)]), 100000), 2)
        over = run(machine, world, 9)
        self.assertIsNone(first_unlike(machine, Fast(machine, pair, over), 100000))

    def test_sleep(self):
        machine = sleepy_machine()
        world = start(machine, SLEEPY, (0, 1), vectors=(3, 3))
        pair = long_pair(random.Random(0), machine.book, 1)
        self.assertIsNone(first_unlike(machine, Fast(machine, pair, world), 100000))
        other = sleepy_machine(turns=[(0, 1000), (1, 999)])
        self.assertEqual(first_unlike(other, Fast(machine, pair, world), 100000), own_first_unlike(other, Fast(machine, pair, world), 3000))

    def test_another_machine(self):
        machine, other = machine_of(events=[(30, "cell", 9, 3)]), machine_of(events=[(20, "key", 3)])
        pair = long_pair(random.Random(0), machine.book, 1)
        world = start(machine, (), (0,))
        self.assertEqual(first_unlike(other, Fast(machine, pair, world), 100), 20)
        self.assertEqual(first_unlike(machine_of(), Fast(machine, pair, world), 100), 30)

    def test_refused(self):
        machine = machine_of()
        fast = Fast(machine, long_pair(random.Random(0), machine.book, 1), start(machine, (), (0,)))
        world = fast.world
        for moment in (-1, *WRONG_NUMBERS):
            self.assertEqual(refusal(first_unlike, machine, fast, moment), ("BadNumber", "moment"))
        self.assertEqual((fast.world, fast.made), (world, 0))


if __name__ == "__main__":
    unittest.main()
