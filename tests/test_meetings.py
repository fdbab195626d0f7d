"""Meetings, and steps that have to do with a cell ([83])."""

import random
import unittest

from helpers import WRONG_NUMBERS, refusal
from plain import BOOKS, Plain, drawn_machine, drawn_start
from riding import SLEEPY, sleepy_machine
from selfwritten.books import Book
from selfwritten.happenings import start
from selfwritten.machines import Machine
from selfwritten.meetings import meeting, part_of
from selfwritten.memory import write_by
from selfwritten.ports import asked
from selfwritten.runs import run, trail
from selfwritten.saves import saved, world_of
from selfwritten.worlds import with_cell
from worldly import apart, machine_of, nop_book


def with_own(world, q, **more):
    return world.with_processor(q, world.processors[q].changed(**more))


class Meetings(unittest.TestCase):
    def wanted(self, machine, one, other, moment):
        pairs = zip(trail(machine, one, max(moment, one.moment)), trail(machine, other, max(moment, one.moment)))
        found = [first.moment for first, second in pairs if first == second and first.moment <= moment]
        return found[0] if found else None

    def test_against_two_runs(self):
        rng = random.Random(83)
        told = []
        for number in range(250):
            machine = drawn_machine(rng, 4)
            one = run(machine, drawn_start(rng, machine), rng.randrange(5))
            other = one
            for _ in range(rng.randrange(1, 3)):
                told_cells = [event[2] for event in machine.events if event[1] == "cell"]
                other = with_cell(other, rng.choice(told_cells or list(range(16))), rng.randrange(16))
            if number % 5 == 0:
                other = with_own(other, 0, regs=tuple(rng.randrange(16) for _ in other.processors[0].regs))
            moment = rng.choice((0, 3, 10, 40))
            told.append(meeting(machine, one, other, moment))
            self.assertEqual(told[-1], self.wanted(machine, one, other, moment))
            self.assertEqual(meeting(machine, other, one, moment), told[-1])
        self.assertGreater(len(set(told)), 8)
        self.assertIn(None, told)

    def test_equal_worlds_meet_at_once(self):
        machine = machine_of()
        world = start(machine, (), (0,)).changed(moment=7)
        self.assertEqual([meeting(machine, world, world, moment) for moment in (8, 7, 6, 0)], [7, 7, None, None])

    def test_runs_that_end(self):
        machine = machine_of(processors=2)
        world = start(machine, (), (0, 0))
        over = with_own(with_own(world, 0, status="fallen"), 1, status="fallen")
        self.assertIsNone(meeting(machine, world, over, 50))
        self.assertIsNone(meeting(machine, over, world, 50))
        self.assertIsNone(meeting(machine, over, with_cell(over, 3, 3), 50))
        self.assertEqual(meeting(machine, over, over, 50), 0)

    def test_what_was_shown_stays(self):
        machine = machine_of()
        world = start(machine, (), (0,))
        self.assertIsNone(meeting(machine, world, world.changed(shown=((0, 0, 3),)), 10))
        self.assertIsNone(meeting(machine, world, world.changed(noted=((0, 0, 3, 0),)), 10))
        for name, rows in (("shown", ((0, 0, 3), (0, 0, 4), (0, 0, 5))), ("noted", ((0, 0, 3, 0), (0, 0, 4, 0), (0, 0, 5, 0)))):
            one = world.changed(**{name: (rows[0], rows[2])})
            self.assertIsNone(meeting(machine, one, world.changed(**{name: (rows[1], rows[2])}), 10))
            self.assertEqual(meeting(machine, one, world.changed(**{name: (rows[0], rows[2])}), 10), 0)

    def test_what_was_shown_or_noted_ahead(self):
        # One world has already what the run of the other one is still to show and to note.
        rng = random.Random(17)
        told = []
        for _ in range(300):
            machine = drawn_machine(rng, 4, book=BOOKS[4])
            one = run(machine, drawn_start(rng, machine), rng.randrange(6))
            last = run(machine, one, one.moment + rng.randrange(1, 20))
            other = one.changed(shown=last.shown[:rng.randrange(len(last.shown) + 1)] if rng.random() < 0.5 else last.shown,
                                noted=last.noted[:rng.randrange(len(last.noted) + 1)] if rng.random() < 0.5 else last.noted)
            if len(other.shown) < len(one.shown) or len(other.noted) < len(one.noted):
                continue
            # Where it is to meet, it must not show and note the same once more.
            for _ in range(rng.randrange(3)):
                told_cells = [event[2] for event in machine.events if event[1] == "cell"]
                other = with_cell(other, rng.choice(told_cells or list(range(16))), rng.randrange(16))
            if rng.random() < 0.6 and one.left > 0:
                other = with_own(other, 0, status="resting", lines=())
            other, one = world_of(saved(other)), world_of(saved(one))
            moment = rng.choice((0, 3, 10, 40))
            found = meeting(machine, one, other, moment)
            self.assertEqual(found, self.wanted(machine, one, other, moment))
            self.assertEqual(meeting(machine, other, one, moment), found)
            told.append((found, one.shown == other.shown and one.noted == other.noted))
        self.assertIn((None, False), told)

    def test_runs_that_show_what_the_other_one_has_already(self):
        say = ("say", ("0001",), [("num", 5), ("out", 0, 0)])
        book = Book(4, 1, [("nop", ("0000",), ()), say])
        rng = random.Random(1017)
        found = {}
        for _ in range(300):
            cells = [rng.randrange(2) for _ in range(16)]
            moment = rng.randrange(1, 8)
            # Events make the cells equal later on.
            machine = Machine(book, events=[(moment, "cell", x, 0) for x in range(16)])
            one = start(machine, cells, (0,))
            blank = [0 if rng.random() < 0.8 else cell for cell in cells]
            shown = [(at, 0, 5) for at in range(8) if cells[at] and not blank[at]]
            if rng.random() < 0.3 and shown:
                shown[rng.randrange(len(shown))] = (rng.randrange(9), 0, rng.randrange(4, 6))
            other = world_of(saved(start(machine, blank, (0,)).changed(shown=tuple(shown))))
            for moment in (0, moment - 1, moment, 20):
                told = meeting(machine, one, other, moment)
                self.assertEqual(told, self.wanted(machine, one, other, moment))
                self.assertEqual(meeting(machine, other, one, moment), told)
                found[told, bool(shown)] = found.get((told, bool(shown)), 0) + 1
        self.assertGreaterEqual(len([told for told, ahead in found if ahead]), 6)

    def test_entries_far_ahead(self):
        machine = machine_of()
        world = start(machine, (), (0,))
        for shown in (((10 ** 9, 0, 3),), ((5, 0, 3), (10 ** 9, 0, 3))):
            other = world_of(saved(world.changed(shown=shown)))
            self.assertIsNone(meeting(machine, world, other, 2000))
            self.assertIsNone(meeting(machine, other, world, 2000))
            self.assertEqual(meeting(machine, other, other, 2000), 0)

    def test_sleep(self):
        machine = sleepy_machine()
        world = start(machine, SLEEPY, (0, 0), vectors=(3, 3))
        for x, wanted in ((9, 7), (10, None)):
            self.assertEqual(meeting(machine, world, with_cell(world, x, 3), 100000), wanted)
        one = run(machine, world, 15025)
        self.assertEqual(meeting(machine, one, with_cell(one, 9, 3), 100000), 30033)
        self.assertEqual(part_of(machine, one, 100000, 9), 30032)
        self.assertIsNone(part_of(machine, one, 100000, 10))

    def test_refused(self):
        machine = machine_of(processors=2)
        world = start(machine, (), (0, 0))
        later = world.changed(moment=1)
        for moment in (-1, *WRONG_NUMBERS):
            self.assertEqual(refusal(meeting, machine, world, world, moment), ("BadNumber", "moment"))
            self.assertEqual(refusal(meeting, machine, world, later, moment), ("BadWorld", "moment"))
        self.assertEqual(refusal(meeting, machine, world, None, -1), ("BadWorld", "world"))
        self.assertEqual(refusal(meeting, machine, None, later, -1), ("BadWorld", "world"))
        self.assertEqual(refusal(meeting, machine_of(), world, later, -1), ("BadWorld", "world"))
        stopped = asked(machine, world, 0, ("out", 8, 0))[1]
        self.assertEqual(refusal(meeting, machine, stopped, world, 5), ("BadWorld", "world"))
        self.assertEqual(refusal(meeting, machine, world, stopped, 5), ("BadWorld", "world"))
        self.assertIsNone(meeting(machine, world, stopped, 0))


class Parts(unittest.TestCase):
    def test_against_a_machine_of_the_tests(self):
        rng = random.Random(830)
        told = set()
        for number in range(200):
            machine = drawn_machine(rng, 4)
            world = drawn_start(rng, machine)
            for x in range(16):
                plain, wanted = Plain(machine, world, x), None
                while wanted is None and plain.moment < 25 and not plain.over():
                    before = plain.moment
                    plain.step()
                    wanted = before if plain.met else None
                self.assertEqual(part_of(machine, world, 25, x), wanted)
                told.add(wanted)
        self.assertGreater(len(told), 10)

    def test_worlds_that_differ_in_one_cell(self):
        rng = random.Random(831)
        for _ in range(120):
            machine = drawn_machine(rng, 4)
            world = drawn_start(rng, machine)
            x = rng.randrange(16)
            other = with_cell(world, x, (world.cells[x] + rng.randrange(1, 16)) % 16)
            at = part_of(machine, world, 30, x)
            self.assertEqual(part_of(machine, other, 30, x), at)
            for one, two in zip(trail(machine, world, 30), trail(machine, other, 30)):
                if at is not None and one.moment > at:
                    break
                self.assertEqual(list(apart(one, two)), [("cells", x)])

    def of(self, image, x, moment=9, depth=0, events=(), rights=(7,) * 8, regs=(0, 0)):
        machine = Machine(BOOKS[4], depth=depth, events=events)
        world = with_own(start(machine, image, (0,), rights=rights), 0, regs=regs)
        return part_of(machine, world, moment, x)

    def test_looks(self):
        self.assertEqual([self.of((0, 4, 3), x) for x in range(5)], [0, 1, 1, 2, 3])
        self.assertEqual([self.of((0, 4, 3), x, 1) for x in range(3)], [0, None, None])
        # Also the looks of a fetching that gives a fault; behind it the run has ended.
        self.assertEqual([self.of((0, 9, 15), x) for x in range(4)], [0, 1, 1, None])
        self.assertEqual([self.of((0, 9, 3), x, rights=[7, 6] + [7] * 6) for x in range(4)], [0, 1, None, None])

    def test_reads(self):
        self.assertEqual(self.of((0, 5), 12, regs=(12, 0)), 1)
        # A read that is answered None has nothing to do with the cell.
        self.assertIsNone(self.of((0, 5), 12, 2, rights=[7] * 6 + [3, 7], regs=(12, 0)))
        # Neither has one that is answered by a waiting write; the write settles at the next one.
        self.assertEqual(self.of((6, 5, 5, 6), 12, depth=1, regs=(12, 3)), 3)
        self.assertIsNone(self.of((6, 5, 5, 6), 12, 3, depth=1, regs=(12, 3)))
        self.assertEqual(self.of((6, 0, 6, 0), 12, depth=1, regs=(12, 3)), 2)

    def test_settlings(self):
        self.assertEqual(self.of((6, 0), 12, regs=(12, 0)), 0)
        self.assertIsNone(self.of((6, 0), 12, 5, depth=1, regs=(12, 0)))
        self.assertEqual(self.of((6, 0, 9, 6), 12, depth=3, regs=(12, 0)), 2)
        self.assertEqual(self.of((6, 0, 9, 8), 12, depth=3, regs=(12, 0)), 2)
        self.assertIsNone(self.of((6, 0), 12, 5, rights=[7] * 6 + [5, 7], regs=(12, 0)))

    def test_events(self):
        self.assertEqual(self.of((), 12, events=[(4, "cell", 12, 0)]), 3)
        self.assertIsNone(self.of((), 12, events=[(4, "cell", 13, 0)]))
        self.assertIsNone(self.of((), 12, 3, events=[(4, "cell", 12, 0)]))
        self.assertEqual(self.of((6,), 12, depth=2, events=[(4, "drain", 0)], regs=(12, 0)), 3)
        self.assertIsNone(self.of((6,), 11, depth=2, events=[(4, "drain", 0)], regs=(12, 0)))
        self.assertIsNone(self.of((6,), 12, 5, depth=2, events=[(1, "line", 0, 3)], regs=(12, 0)))
        events = [(4, "drain", 0), (4, "drain", 0)]
        machine = Machine(nop_book(), depth=2, events=events)
        world = write_by(machine, write_by(machine, start(machine, (), (0,)), 0, 12, 5), 0, 13, 6)
        self.assertEqual([part_of(machine, world, 9, x) for x in (12, 13, 14)], [3, 3, None])

    def test_all_steps_of_the_run_count(self):
        machine = Machine(BOOKS[4], processors=2, turns=[(0, 3), (1, 2)])
        world = start(machine, (), (0, 8))
        self.assertEqual([part_of(machine, world, 20, x) for x in (2, 3, 8, 9, 10)], [2, 5, 3, 4, 8])

    def test_refused(self):
        machine = machine_of(processors=2)
        world = start(machine, (), (0, 0))
        for moment in (-1, *WRONG_NUMBERS):
            self.assertEqual(refusal(part_of, machine, world, moment, -1), ("BadNumber", "moment"))
            self.assertEqual(refusal(part_of, machine_of(), world, moment, -1), ("BadWorld", "world"))
        for x in (-1, 16, *WRONG_NUMBERS):
            self.assertEqual(refusal(part_of, machine, world, 3, x), ("BadNumber", "x"))
        stopped = asked(machine, world, 0, ("out", 8, 0))[1]
        self.assertEqual(refusal(part_of, machine, stopped, 5, 3), ("BadWorld", "world"))
        self.assertIsNone(part_of(machine, stopped, 0, 3))


if __name__ == "__main__":
    unittest.main()
