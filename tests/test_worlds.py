"""Worlds and processors ([62] to [65])."""

import random
import unittest

from helpers import WRONG_NUMBERS, WRONG_ROWS, refusal
from selfwritten.closing import closed
from selfwritten.fetching import fetch
from selfwritten.happenings import happen, raised, start
from selfwritten.machines import Machine
from selfwritten.meetings import meeting, part_of
from selfwritten.memory import drained, read_by, seen, write_by
from selfwritten.ports import asked
from selfwritten.roads import again, along, is_fresh, is_there, road_of, straight
from selfwritten.roadsteps import drive, stops
from selfwritten.runs import kinds, leap, run, run_leaping, trail
from selfwritten.steps import step
from selfwritten.worlds import Processor, World, check_world, is_over, placed, turn_of, with_cell
from worldly import OWN, apart, drawn_world, machine_of, nop_book


def ended(world, q, status="stopped"):
    """The world in which this processor has this status; none of this stage's functions ends one."""
    return world.with_processor(q, world.processors[q].changed(status=status))


class Facts(unittest.TestCase):
    def setUp(self):
        self.machine = machine_of(registers=2, processors=2, depth=2, turns=[(1, 5), (0, 1)])
        self.world = start(self.machine, (1, 2), (3, 4), rights=[7, 6, 5, 4, 3, 2, 1, 0], vectors=[9, None])

    def test_attributes_of_a_world(self):
        world = self.world
        self.assertIsInstance(world, World)
        self.assertEqual((world.moment, world.cells, world.rights), (0, (1, 2) + (0,) * 14, (7, 6, 5, 4, 3, 2, 1, 0)))
        self.assertEqual((world.turn, world.left, world.typed, world.shown, world.noted), (0, 5, (), (), ()))
        self.assertEqual((type(world.processors), len(world.processors)), (tuple, 2))

    def test_attributes_of_a_processor(self):
        own = placed(self.world, 1, 8, (6, 7)).processors[1]
        self.assertIsInstance(own, Processor)
        wanted = (8, (6, 7), (), (), None, None, 0, 0, 0, 0, 0, "on")
        self.assertEqual(tuple(getattr(own, name) for name in OWN), wanted)
        self.assertEqual(own.facts(), wanted)
        self.assertEqual(self.world.processors[0].facts(), (3, (0, 0), (), (), None, 9, 0, 0, 0, 0, 0, "on"))

    def test_facts_of_a_world(self):
        world = happen(self.machine, raised(self.world, 1, 6), ("key", 12))
        world = write_by(self.machine, world, 0, 2, 7)
        heads = (0, (1, 2) + (0,) * 14, (7, 6, 5, 4, 3, 2, 1, 0), 0, 5, (12,), (), ())
        owns = ((3, (0, 0), ((2, 7),), (2,), None, 9, 0, 0, 0, 0, 0, "on"),
                (4, (0, 0), (), (6,), None, None, 0, 0, 0, 0, 0, "on"))
        self.assertEqual(world.facts(), heads + (owns,))

    def test_order_of_facts(self):
        """Each attribute has its own place among the facts, whatever it is."""
        own = self.world.processors[0]
        for at, name in enumerate(OWN):
            facts = own.changed(**{name: "other"}).facts()
            self.assertEqual([k for k in range(12) if facts[k] != own.facts()[k]], [at])
        for at, name in enumerate(("moment", "cells", "rights", "turn", "left", "typed", "shown", "noted")):
            facts = self.world.changed(**{name: "other"}).facts()
            self.assertEqual([k for k in range(9) if facts[k] != self.world.facts()[k]], [at])

    def test_ended(self):
        own = self.world.processors[0]
        told = [own.changed(status=status).ended() for status in ("on", "resting", "stopped", "fallen")]
        self.assertEqual(told, [False, False, True, True])
        self.assertIs(own.ended(), False)

    def test_is_over(self):
        world = self.world
        self.assertIs(is_over(world), False)
        self.assertIs(is_over(ended(world, 0)), False)
        self.assertIs(is_over(ended(world, 1, "fallen")), False)
        self.assertIs(is_over(ended(ended(world, 0), 1, "fallen")), True)
        self.assertIs(is_over(ended(ended(world, 0), 1, "resting")), False)

    def test_turn_of(self):
        self.assertEqual(turn_of(self.machine, self.world), 1)
        self.assertEqual(turn_of(self.machine, self.world.changed(turn=1, left=1)), 0)


class Equal(unittest.TestCase):
    def test_equal_facts(self):
        machine = machine_of(depth=1)
        one, other = start(machine, (1,), (2,)), start(machine, [1], [2])
        self.assertTrue(one == other)
        self.assertFalse(one != other)
        self.assertFalse(one is other)
        # Another machine's world with equal facts is equal, too.
        self.assertTrue(one == start(machine_of(depth=3), (1, 0), (2,)))

    def test_each_fact_counts(self):
        machine = machine_of(depth=1, processors=2)
        world = start(machine, (), (0, 0))
        for name in ("moment", "cells", "rights", "turn", "left", "typed", "shown", "noted"):
            self.assertFalse(world == world.changed(**{name: 9}), name)
        for q in (0, 1):
            for name in OWN:
                other = world.with_processor(q, world.processors[q].changed(**{name: 9}))
                self.assertFalse(world == other, name)
                self.assertTrue(world != other, name)

    def test_other_kinds(self):
        world = start(machine_of(), (), (0,))
        for other in (None, 0, world.facts(), "world", world.processors[0]):
            self.assertFalse(world == other)


def trail_of(machine, world, moment):
    return list(trail(machine, world, moment))


class Checked(unittest.TestCase):
    def setUp(self):
        self.machine = machine_of(registers=2, processors=2, depth=1, turns=[(0, 3), (1, 2)])
        self.world = start(self.machine, (), (0, 0))

    def refused(self, world, machine=None):
        """Every function that is given a machine and a world refuses it, whatever else is wrong."""
        machine = machine or self.machine
        road = road_of(self.machine.book, [(0, ("nop", ()))])
        calls = ((check_world, ()), (turn_of, ()), (seen, (9, 99)), (read_by, (9, 99)), (write_by, (9, 99, 99)),
                 (happen, (None,)), (asked, (9, None)), (fetch, (99,)), (closed, ()), (step, ()), (run, (-1,)),
                 (kinds, (-1,)), (leap, (-1,)), (run_leaping, (-1,)), (trail_of, (-1,)), (meeting, (None, -1)),
                 (part_of, (-1, 99)), (straight, (99, 0)), (along, (None,)), (again, (road,)), (is_fresh, (road,)),
                 (is_there, (road,)), (stops, (9, -1, False)), (drive, (road, -1)))
        self.assertEqual(refusal(meeting, machine, self.good_of(machine), world, -1), ("BadWorld", "world"))
        for call, rest in calls:
            self.assertEqual(refusal(call, machine, world, *rest), ("BadWorld", "world"), call)

    def good_of(self, machine):
        return start(machine, (), (0,) * machine.processors)

    def good(self, world, machine=None):
        self.assertIsNone(check_world(machine or self.machine, world))
        self.assertIn(turn_of(machine or self.machine, world), (0, 1))

    def test_good(self):
        self.good(self.world)
        self.assertIsNone(check_world(self.machine, write_by(self.machine, self.world, 0, 1, 1)))

    def test_no_world(self):
        for other in (None, 0, "world", (), self.world.facts(), self.world.processors[0], self.machine):
            self.refused(other)

    def test_cells(self):
        other = machine_of(word=5, registers=2, processors=2, depth=1, turns=[(0, 3), (1, 2)])
        self.refused(start(other, (), (0, 0)))
        self.refused(self.world, other)

    def test_processors(self):
        for many in (1, 3):
            turns = [(0, 3), (0, 3)] if many == 1 else [(0, 3), (1, 2), (2, 1)]
            other = machine_of(registers=2, processors=many, depth=1, turns=turns)
            self.refused(start(other, (), (0,) * many))
            self.refused(self.world, other)

    def test_registers(self):
        for registers in (1, 3):
            other = machine_of(registers=registers, processors=2, depth=1, turns=[(0, 3), (1, 2)])
            self.refused(start(other, (), (0, 0)))
            self.refused(self.world, other)

    def test_turn(self):
        other = machine_of(registers=2, processors=2, depth=1, turns=[(0, 3), (1, 2), (0, 2)])
        world = self.world.changed(turn=2, left=1)
        self.refused(world)
        self.good(world, other)
        self.good(self.world.changed(turn=1, left=1))

    def test_left(self):
        for left, turn in ((0, 0), (4, 0), (0, 1), (3, 1)):
            self.refused(self.world.changed(turn=turn, left=left))
        for left, turn in ((1, 0), (3, 0), (1, 1), (2, 1)):
            self.good(self.world.changed(turn=turn, left=left))
        one = start(machine_of(registers=2, processors=2, depth=1, turns=[(0, 9), (1, 2)]), (), (0, 0))
        self.refused(one)

    def test_left_does_not_count_if_all_have_ended(self):
        world = self.world.changed(left=0)
        self.refused(ended(world, 0))
        self.refused(ended(world, 1))
        over = ended(ended(world, 0), 1, "fallen")
        self.good(over)
        self.good(over.changed(left=9))
        self.refused(over.changed(turn=2))

    def test_buffers(self):
        deep = machine_of(registers=2, processors=2, depth=3, turns=[(0, 3), (1, 2)])
        for q in (0, 1):
            world = self.world
            for many in range(4):
                shallow = [machine_of(registers=2, processors=2, depth=depth, turns=[(0, 3), (1, 2)])
                           for depth in range(4)]
                for depth, machine in enumerate(shallow):
                    if many <= depth:
                        self.good(world, machine)
                    else:
                        self.refused(world, machine)
                world = write_by(deep, world, q, many, 1)

    def test_worlds_without_a_machine_are_not_checked(self):
        odd = self.world.changed(turn=9, left=99)
        self.assertEqual(apart(odd, with_cell(odd, 1, 1)), {("cells", 1): 1})
        self.assertEqual(apart(odd, placed(odd, 1, 5, (0, 0))), {("place", 1): 5})
        self.assertEqual(apart(odd, raised(odd, 1, 4)), {("lines", 1): (4,)})
        self.assertTrue(drained(odd, 0) == odd)
        self.assertIs(is_over(odd), False)


class Placed(unittest.TestCase):
    def test_told_apart(self):
        rng = random.Random(64)
        for number in range(60):
            machine = machine_of(word=(4, 8)[number % 2], registers=1 + number % 4, processors=3, depth=3)
            world = drawn_world(rng, machine)
            size = 2 ** machine.word
            before = world.facts()
            q, place = rng.randrange(3), rng.choice((0, size - 1, rng.randrange(size)))
            regs = [rng.randrange(size) for _ in range(machine.book.registers)]
            after = placed(world, q, place, regs)
            own = after.processors[q]
            self.assertEqual((own.place, own.regs, type(own.regs)), (place, tuple(regs), tuple))
            self.assertLessEqual(set(apart(world, after)), {("place", q), ("regs", q)})
            self.assertEqual(world.facts(), before)
            regs[0] = -1
            self.assertNotEqual(own.regs[0], -1)
            same = world.processors[q]
            self.assertTrue(placed(world, q, same.place, same.regs) == world)

    def test_refused(self):
        world = start(machine_of(registers=2, processors=2), (), (0, 0))
        for q in (-1, 2, *WRONG_NUMBERS):
            self.assertEqual(refusal(placed, world, q, 99, None), ("BadNumber", "q"))
        for place in (-1, 16, *WRONG_NUMBERS):
            self.assertEqual(refusal(placed, world, 1, place, None), ("BadNumber", "place"))
        for regs in (*WRONG_ROWS, (), (1,), (1, 2, 3)):
            self.assertEqual(refusal(placed, world, 1, 15, regs), ("BadWords", -1))
        for word in (-1, 16, *WRONG_NUMBERS):
            self.assertEqual(refusal(placed, world, 0, 0, (word, word)), ("BadWords", 0))
            self.assertEqual(refusal(placed, world, 0, 0, [15, word]), ("BadWords", 1))

    def test_width_8(self):
        world = start(machine_of(word=8), (), (0,))
        self.assertEqual(placed(world, 0, 255, (255,)).processors[0].facts()[:2], (255, (255,)))
        self.assertEqual(refusal(placed, world, 0, 256, (0,)), ("BadNumber", "place"))
        self.assertEqual(refusal(placed, world, 0, 0, (256,)), ("BadWords", 0))


class Cells(unittest.TestCase):
    def test_told_apart(self):
        rng = random.Random(65)
        for number in range(60):
            machine = machine_of(word=(4, 8)[number % 2], processors=2, depth=3)
            world = drawn_world(rng, machine)
            size = 2 ** machine.word
            before = world.facts()
            x, v = rng.choice((0, size - 1, rng.randrange(size))), rng.randrange(size)
            after = with_cell(world, x, v)
            self.assertEqual(apart(world, after), {("cells", x): v} if world.cells[x] != v else {})
            self.assertEqual((type(after.cells), len(after.cells)), (tuple, size))
            self.assertEqual(world.facts(), before)

    def test_no_buffer_changes(self):
        machine = machine_of(depth=2)
        world = write_by(machine, start(machine, (), (0,)), 0, 3, 8)
        after = with_cell(world, 3, 5)
        self.assertEqual(apart(world, after), {("cells", 3): 5})
        self.assertEqual(drained(after, 0).cells[3], 8)

    def test_refused(self):
        world = start(machine_of(), (), (0,))
        for wrong in (-1, 16, *WRONG_NUMBERS):
            self.assertEqual(refusal(with_cell, world, wrong, wrong), ("BadNumber", "x"))
            self.assertEqual(refusal(with_cell, world, 0, wrong), ("BadNumber", "v"))
        wide = start(machine_of(word=8), (), (0,))
        self.assertEqual(with_cell(wide, 255, 255).cells[255], 255)
        self.assertEqual(refusal(with_cell, wide, 256, 0), ("BadNumber", "x"))


class Machines(unittest.TestCase):
    def test_worlds_of_one_machine_are_worlds_of_a_like_one(self):
        one = Machine(nop_book(), depth=1, events=[(4, "key", 1)])
        other = Machine(nop_book(), depth=2, turns=[(0, 7)])
        self.assertIsNone(check_world(other, start(one, (), (0,))))


if __name__ == "__main__":
    unittest.main()
