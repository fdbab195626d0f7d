"""Steps of the plain machine ([79], [80])."""

import random
import unittest

from helpers import refusal
from plain import BOOKS, Plain, drawn_machine, drawn_start
from selfwritten.books import Book
from selfwritten.closing import can_take
from selfwritten.happenings import happen, raised, start
from selfwritten.machines import Machine
from selfwritten.ports import asked
from selfwritten.steps import step
from selfwritten.worlds import check_world, is_over
from worldly import apart, machine_of

RUNS = 450


def with_own(world, q, **more):
    return world.with_processor(q, world.processors[q].changed(**more))


class Kinds(unittest.TestCase):
    """Each kind of step, with the worker's book at width 4; the turn of processor 0 goes on."""

    def setUp(self):
        self.machine = Machine(BOOKS[4], processors=2, turns=[(0, 9), (1, 1)])

    def check(self, image, kind, wanted, *, machine=None, vector=None, place=0, **more):
        machine = machine or self.machine
        world = start(machine, image, (place, 0), vectors=(vector, None))
        world = with_own(world, 0, **more)
        before = world.facts()
        told, after = step(machine, world)
        self.assertEqual(told, kind)
        self.assertEqual(apart(world, after), {"moment": 1, "left": 8, **wanted})
        self.assertEqual(world.facts(), before)
        return after

    def test_done(self):
        self.check((0,), "done", {("place", 0): 1})
        self.check((1,), "done", {("place", 0): 1, ("regs", 0): (6, 3)}, regs=(5, 3))
        self.check((4, 9), "done", {("place", 0): 9})
        self.check([0] * 15 + [1], "done", {("place", 0): 0, ("regs", 0): (1, 0)}, place=15)
        self.check((6,), "done", {("place", 0): 1, ("cells", 7): 3}, regs=(7, 3))
        self.check((9, 0), "done", {("place", 0): 2, "shown": ((0, 0, 5),)}, regs=(5, 0))
        self.check((9, 7), "done", {("place", 0): 2, ("status", 0): "resting"})
        # The turn's rest is cut off where the processor ends.
        self.check((9, 8), "done", {("place", 0): 2, ("status", 0): "stopped", "turn": 1, "left": 1})

    def test_waiting_signals_that_cannot_be_taken(self):
        for more in ({}, {"mode": 1, "vector": 7}, {"mode": 1}):
            self.check((0,), "done", {("place", 0): 1}, lines=(2, 4), **more)

    def test_taken(self):
        wanted = {("place", 0): 7, ("saved", 0): 3, ("cause", 0): 2, ("mode", 0): 1, ("lines", 0): (4,),
                  "noted": ((0, 0, 2, 3),)}
        self.check((0,), "taken", wanted, vector=7, place=3, lines=(2, 4))
        self.check((0,), "taken", {**wanted, ("status", 0): "on"}, vector=7, place=3, lines=(2, 4), status="resting")

    def test_idle(self):
        for more in ({}, {"vector": 7}, {"mode": 1}):
            self.check((0,), "idle", {}, status="resting", **more)

    def test_a_signal_wakes_who_cannot_take(self):
        for more in ({}, {"vector": 7, "mode": 1}):
            wanted = {("place", 0): 1, ("status", 0): "on"}
            self.check((0,), "done", wanted, status="resting", lines=(5,), **more)
        wanted = {"noted": ((0, 0, 9, 0),), ("cause", 0): 9, ("status", 0): "fallen", "turn": 1, "left": 1}
        self.check((15,), "fall", wanted, status="resting", lines=(5,))

    def test_fault_and_fall(self):
        image = (12, 5, 6)
        rights = Machine(BOOKS[4], processors=2, turns=[(0, 9), (1, 1)],
                         events=[(0, "rights", 7, 0), (0, "rights", 1, 6)])
        for place, cause, more in ((0, 13, {}), (15, 8, {}), (2, 8, {}), (3, 8, {}),
                                   (1, 10, {"regs": (15, 0)}), (5, 9, {})):
            fault = {"noted": ((0, 0, cause, place),), ("saved", 0): place, ("cause", 0): cause, ("mode", 0): 1,
                     ("place", 0): 9}
            told = {name: fact for name, fact in fault.items() if name != ("saved", 0) or fact != 0}
            cells = image + (0, 0, 15)
            self.check(cells, "fault", told, machine=rights, vector=9, place=place, **more)
            fall = {"noted": ((0, 0, cause, place),), ("cause", 0): cause, ("status", 0): "fallen", "turn": 1, "left": 1}
            self.check(cells, "fall", fall, machine=rights, place=place, **more)
            self.check(cells, "fall", fall, machine=rights, place=place, vector=9, mode=1, **more)

    def test_a_write_that_is_refused(self):
        machine = Machine(BOOKS[4], processors=2, turns=[(0, 9), (1, 1)], events=[(0, "rights", 7, 5)])
        wanted = {"noted": ((0, 0, 11, 0),), ("cause", 0): 11, ("mode", 0): 1, ("place", 0): 9}
        self.check((6,), "fault", wanted, machine=machine, vector=9, regs=(14, 3))
        self.check((6,), "done", {("place", 0): 1, ("cells", 13): 3}, machine=machine, vector=9, regs=(13, 3))

    def test_asks_are_answered_in_the_world_as_it_is_by_then(self):
        lines = [("get", 0), ("read", 0), ("get", 1), ("write", 0, 2), ("put", 0, 1)]
        machine = Machine(Book(4, 2, [("swap", ["0001"], lines)]), depth=1)
        world = with_own(start(machine, (1, 1, 7), (0,)), 0, regs=(2, 5))
        world = step(machine, world)[1]
        self.assertEqual((world.processors[0].regs, world.processors[0].buffer), ((7, 5), ((2, 5),)))
        world = step(machine, with_own(world, 0, regs=(2, 9)))[1]
        self.assertEqual((world.processors[0].regs, world.cells[2]), ((5, 9), 5))

    def test_the_step_belongs_to_the_present_turn(self):
        for turn, q in ((0, 0), (1, 1)):
            world = start(self.machine, (1,), (0, 0)).changed(turn=turn, left=1)
            after = step(self.machine, world)[1]
            self.assertEqual([own.regs for own in after.processors], [(int(p == q), 0) for p in range(2)])
            self.assertEqual((after.turn, after.left), (1 - turn, (9, 1)[1 - turn]))


class Refusals(unittest.TestCase):
    def test_over(self):
        machine = machine_of(processors=2)
        world = start(machine, (), (0, 0))
        for statuses in (("stopped", "fallen"), ("fallen", "fallen"), ("stopped", "stopped")):
            for q in range(2):
                world = with_own(world, q, status=statuses[q])
            self.assertEqual(refusal(step, machine, world), ("IsOver",))
            self.assertEqual(refusal(step, machine, world.changed(left=0)), ("IsOver",))

    def test_the_present_processor_has_ended(self):
        machine = machine_of(processors=2)
        world = start(machine, (), (0, 0))
        after = asked(machine, world, 0, ("out", 8, 0))[1]
        self.assertEqual(refusal(step, machine, after), ("BadWorld", "world"))
        after = asked(machine, world, 1, ("out", 8, 0))[1]
        self.assertEqual(step(machine, after)[0], "done")

    def test_the_world_first(self):
        machine = machine_of(processors=2)
        over = start(machine, (), (0, 0))
        for q in range(2):
            over = with_own(over, q, status="fallen")
        for other in (machine_of(word=5, processors=2), machine_of(processors=1), machine_of(registers=2, processors=2)):
            self.assertEqual(refusal(step, other, over), ("BadWorld", "world"))
        self.assertEqual(refusal(step, machine, (1, 2)), ("BadWorld", "world"))


class Drawn(unittest.TestCase):
    def test_against_a_machine_of_the_tests(self):
        rng = random.Random(79)
        kinds, written = set(), 0
        for number in range(RUNS):
            machine = drawn_machine(rng, (4, 4, 8)[number % 3], depth=number % 4)
            world = drawn_start(rng, machine)
            plain, fetched = Plain(machine, world), set()
            for _ in range(45):
                if is_over(world):
                    self.assertEqual(refusal(step, machine, world), ("IsOver",))
                    break
                before = world
                kind, world = step(machine, world)
                self.assertEqual(kind, plain.step())
                self.assertEqual(world.facts(), plain.facts())
                check_world(machine, world)
                self.follows(machine, before, kind, world)
                kinds.add(kind)
                # Images that write over their own code.
                place = before.processors[machine.turns[before.turn][0]].place
                written += (place, before.cells[place]) not in fetched and place in {at for at, _ in fetched}
                fetched.add((place, before.cells[place]))
        self.assertEqual(kinds, {"idle", "taken", "fault", "fall", "done"})
        self.assertGreater(written, 20)

    def follows(self, machine, before, kind, after):
        """What [80] tells of a step."""
        q = machine.turns[before.turn][0]
        own, then = before.processors[q], after.processors[q]
        self.assertEqual(kind == "taken", can_take(before, q))
        changed = {name if isinstance(name, str) else name[0] for name in apart(before, after)}
        if machine.due(after.moment) == () and after.moment not in [one.alarm for one in before.processors]:
            closing = {"moment", "left", "turn"}
            if kind == "fault":
                self.assertLessEqual(changed - closing, {"place", "saved", "cause", "mode", "noted", "status"})
            if kind == "fall":
                self.assertLessEqual(changed - closing, {"cause", "status", "noted"})
            if kind == "done":
                self.assertLessEqual(len(own.buffer) + 1 - len(then.buffer), max(1, machine.depth) + 1)
        if kind in ("taken", "fault"):
            self.assertEqual(then.mode, 1)
        elif own.mode == 1 and then.mode == 0:
            self.assertEqual(kind, "done")


class Modes(unittest.TestCase):
    def test_from_taking_until_the_saved_place_is_asked_for(self):
        # At the vector: nop, then in 3.
        machine = Machine(BOOKS[4])
        world = start(machine, (0, 0, 0, 0, 0, 0, 8, 3), (0,), vectors=(5,))
        world = raised(raised(world, 0, 4), 0, 6)
        modes = []
        for _ in range(5):
            kind, world = step(machine, world)
            modes.append((kind, world.processors[0].mode, world.processors[0].lines))
        self.assertEqual(modes, [("taken", 1, (6,)), ("done", 1, (6,)), ("done", 0, (6,)), ("taken", 1, ()),
                                 ("done", 1, ())])
        self.assertEqual(world.processors[0].saved, 8)

    def test_an_event_behind_a_step_is_seen_by_the_next_one(self):
        machine = Machine(BOOKS[4], events=[(1, "line", 0, 7)])
        world = start(machine, (), (0,), vectors=(5,))
        kind, world = step(machine, world)
        self.assertEqual((kind, step(machine, world)[0]), ("done", "taken"))
        self.assertEqual(happen(machine, world, ("line", 0, 7)), world)


if __name__ == "__main__":
    unittest.main()
