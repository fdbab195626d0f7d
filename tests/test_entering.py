"""Rides ([167])."""

import random
import unittest

from helpers import WRONG_NUMBERS, WRONG_ROWS, refusal
from plain import BOOKS, drawn_machine, drawn_start
from riding import drawn_case, drawn_pair, long_pair
from selfwritten.books import Book
from selfwritten.closing import closed
from selfwritten.entering import Ride, answer_of
from selfwritten.happenings import start
from selfwritten.machines import Machine
from selfwritten.ports import asked
from selfwritten.roads import holds, straight
from selfwritten.roadsteps import stops
from selfwritten.rowruns import Running
from selfwritten.rows import Row
from selfwritten.runs import run
from selfwritten.templates import template
from selfwritten.trimming import trimmed
from selfwritten.worlds import turn_of
from worldly import machine_of


class Rides(unittest.TestCase):
    def test_attributes(self):
        machine = machine_of()
        pair = long_pair(random.Random(0), machine.book, 1)
        road = straight(machine, start(machine, (), (0,)), 3, 2)
        row = template(pair, road)
        ride = Ride(pair, road, row, 2, 3, [9], 77)
        self.assertIs(ride.road, road)
        self.assertIs(ride.row, row)
        self.assertEqual((ride.q, ride.entered, ride.thrown), (2, 77, False))
        self.assertIsInstance(ride.state, Running)
        self.assertEqual((ride.state.at, ride.state.done, ride.state.slots), (0, 0, {0: 9, 1: 3}))

    def test_refused(self):
        machine = machine_of()
        pair = long_pair(random.Random(0), machine.book, 1)
        road = straight(machine, start(machine, (), (0,)), 3, 2)
        row = template(pair, road)
        bad = Row([("load", 99, 0), ("end",)], [("num", 0)], [(0, 0), (0, 0)])
        self.assertEqual(refusal(Ride, pair, road, bad, 0, -1, (), 0), ("BadRow", 0))
        for place in (-1, 16, *WRONG_NUMBERS):
            self.assertEqual(refusal(Ride, pair, road, row, 0, place, (), 0), ("BadNumber", "place"))
        for regs in (*WRONG_ROWS, (), (1, 2)):
            self.assertEqual(refusal(Ride, pair, road, row, 0, 3, regs, 0), ("BadWords", -1))
        for reg in (-1, 16, *WRONG_NUMBERS):
            self.assertEqual(refusal(Ride, pair, road, row, 0, 3, (reg,), 0), ("BadWords", 0))

    def test_a_world_that_does_not_fit(self):
        machine = machine_of()
        pair = long_pair(random.Random(0), machine.book, 1)
        world = start(machine, (), (0,))
        road = straight(machine, world, 0, 2)
        ride = Ride(pair, road, template(pair, road), 0, 0, (0,), 0)
        for wrong in (None, start(machine_of(5), (), (0,)), world.changed(turn=1)):
            self.assertEqual(refusal(answer_of, machine, wrong, ride, 9), ("BadWorld", "world"))
        self.assertEqual((ride.thrown, ride.state.at), (False, 0))


class Answers(unittest.TestCase):
    def test_against_asked_and_stops(self):
        rng = random.Random(167)
        seen = {}
        for _ in range(900):
            machine, pair, world = drawn_case(rng)
            world = run(machine, world, rng.randrange(20))
            q = turn_of(machine, world)
            road = straight(machine, world, world.processors[q].place, rng.randrange(1, pair.longest + 1))
            if road is None or world.processors[q].status != "on":
                continue
            ride = Ride(pair, road, rng.choice((template, trimmed))(pair, road), q, road.entry, world.processors[q].regs, world.moment)
            limit = world.moment + rng.randrange(12)
            thrown = False
            handed = None
            while handed is None:
                ask = ride.state.pending()
                answer = None
                if ask is not None:
                    at, done = ride.state.at, ride.state.done
                    answer, after = answer_of(machine, world, ride, limit)
                    self.assertEqual((ride.state.at, ride.state.done), (at, done))
                    wanted = closed(machine, world) if ask == ("tick",) else asked(machine, world, q, ask)[1]
                    self.assertEqual(after, wanted)
                    thrown = thrown or not holds(after, road)
                    self.assertIs(ride.thrown, thrown)
                    if ask == ("tick",):
                        self.assertEqual(answer, 0 if stops(machine, after, q, limit, thrown) == () else None)
                    else:
                        self.assertEqual(answer, asked(machine, world, q, ask)[0])
                    seen[ask[0], answer is None, thrown] = True
                    world = after
                handed = ride.state.go(answer)
        for ask in ("read", "write", "in", "out", "tick"):
            self.assertIn((ask, False, False), seen)
        for told in (("read", True, False), ("write", True, False), ("tick", True, True), ("tick", True, False)):
            self.assertIn(told, seen)

    def test_thrown_stays(self):
        lines = [("num", "n"), ("get", 0), ("write", 0, 1), ("put", 0, 0)]
        book = Book(4, 1, [("st", ("0001", "nnnn"), lines), ("nop", ("0000",), ())])
        machine = Machine(book)
        world = start(machine, (1, 2, 1, 2, 0, 0), (0,))
        pair = long_pair(random.Random(0), book, 1)
        road = straight(machine, world, 0, 4)
        # The first one writes 0 to cell 2; at the tick behind it cell 2 has again what was looked at.
        ride = Ride(pair, road, template(pair, road), 0, 0, (0,), 0)
        told = []
        for word in (0, 1):
            while ride.state.pending() is None:
                ride.state.go()
            answer, world = answer_of(machine, world.changed(cells=world.cells[:2] + (word,) + world.cells[3:]), ride, 50)
            told.append((answer, holds(world, road), ride.thrown))
            ride.state.go(answer)
        self.assertEqual(told[0], (0, False, True))
        self.assertEqual(told[1], (None, True, True))


if __name__ == "__main__":
    unittest.main()
