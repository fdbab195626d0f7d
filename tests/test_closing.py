"""Closing a step, taking, and faults ([77], [78])."""

import random
import unittest

from helpers import WRONG_NUMBERS, refusal
from plain import Plain
from selfwritten.closing import can_take, closed, faulted, taken
from selfwritten.happenings import start
from selfwritten.machines import Machine
from selfwritten.worlds import check_world
from worldly import apart, drawn_event, drawn_world, machine_of, nop_book

STATUSES = ("on", "resting", "stopped", "fallen")


def with_own(world, q, **more):
    return world.with_processor(q, world.processors[q].changed(**more))


class Turns(unittest.TestCase):
    def setUp(self):
        self.machine = machine_of(processors=3, turns=[(0, 1), (1, 2), (2, 1000), (0, 3)])
        self.world = start(self.machine, (), (0, 0, 0))

    def closings(self, world, many):
        found = []
        for _ in range(many):
            world = closed(self.machine, world)
            found.append((world.moment, world.turn, world.left))
        return found

    def test_turns_follow_one_another(self):
        rows = self.closings(self.world, 1007)
        self.assertEqual(rows[:3], [(1, 1, 2), (2, 1, 1), (3, 2, 1000)])
        self.assertEqual(rows[1002:], [(1003, 3, 3), (1004, 3, 2), (1005, 3, 1), (1006, 0, 1), (1007, 1, 2)])

    def test_turns_of_ended_processors_are_left_out(self):
        for status in ("stopped", "fallen"):
            world = with_own(self.world, 1, status=status)
            self.assertEqual(self.closings(world, 2), [(1, 2, 1000), (2, 2, 999)])
            world = with_own(world, 2, status="fallen")
            self.assertEqual(self.closings(world, 5), [(1, 3, 3), (2, 3, 2), (3, 3, 1), (4, 0, 1), (5, 3, 3)])

    def test_the_present_processor_has_ended(self):
        world = with_own(self.world.changed(turn=2, left=500), 2, status="stopped")
        self.assertEqual(self.closings(world, 1), [(1, 3, 3)])
        world = with_own(with_own(world, 0, status="fallen"), 1, status="resting")
        self.assertEqual(self.closings(world, 4), [(1, 1, 2), (2, 1, 1), (3, 1, 2), (4, 1, 1)])

    def test_the_present_turn_is_looked_at_last(self):
        machine = machine_of()
        world = start(machine, (), (0,))
        self.assertEqual(apart(world, closed(machine, world)), {"moment": 1})

    def test_all_have_ended(self):
        world = self.world.changed(turn=2, left=7)
        for q in range(3):
            world = with_own(world, q, status=("stopped", "fallen")[q % 2])
        after = closed(self.machine, world)
        self.assertEqual(apart(world, after), {"moment": 1, "left": 0})
        self.assertEqual(apart(after, closed(self.machine, after)), {"moment": 2})

    def test_resting_processors_keep_their_turns(self):
        world = with_own(self.world, 1, status="resting")
        self.assertEqual(self.closings(world, 2), [(1, 1, 2), (2, 1, 1)])


class Events(unittest.TestCase):
    def test_events_of_the_next_moment_in_their_order(self):
        events = [(1, "cell", 3, 5), (2, "cell", 3, 9), (1, "cell", 3, 6), (0, "cell", 4, 1), (1, "key", 8)]
        machine = Machine(nop_book(), events=events)
        world = start(machine, (), (0,))
        after = closed(machine, world)
        self.assertEqual(apart(world, after), {"moment": 1, ("cells", 3): 6, "typed": (8,), ("lines", 0): (2,)})
        self.assertEqual(apart(after, closed(machine, after)), {"moment": 2, ("cells", 3): 9})

    def test_alarms(self):
        machine = machine_of(processors=3)
        for status in STATUSES:
            world = start(machine, (), (0, 0, 0))
            for q in range(3):
                world = with_own(world, q, alarm=(1, 2, 1)[q], status=(status, "on", "on")[q])
            after = closed(machine, world)
            wanted = {("alarm", 0): None, ("alarm", 2): None, ("lines", 0): (1,), ("lines", 2): (1,), "turn": 1,
                      "moment": 1}
            self.assertEqual(apart(world, after), wanted)
            self.assertEqual(closed(machine, after).processors[1].lines, (1,))

    def test_an_alarm_at_the_present_moment_stays(self):
        world = with_own(start(machine_of(), (), (0,)), 0, alarm=0)
        self.assertEqual(apart(world, closed(machine_of(), world)), {"moment": 1})

    def test_a_signal_waits_once(self):
        machine = Machine(nop_book(), events=[(1, "line", 0, 1), (1, "line", 0, 4)])
        world = with_own(start(machine, (), (0,)), 0, alarm=1, lines=(1, 6))
        self.assertEqual(closed(machine, world).processors[0].lines, (1, 4, 6))

    def test_events_behind_the_turn(self):
        # All have ended, and the events happen all the same.
        machine = Machine(nop_book(), events=[(1, "key", 3)])
        world = with_own(start(machine, (), (0,)), 0, status="fallen")
        after = closed(machine, world)
        self.assertEqual(apart(world, after), {"moment": 1, "left": 0, "typed": (3,), ("lines", 0): (2,)})

    def test_against_a_machine_of_the_tests(self):
        rng = random.Random(77)
        for number in range(300):
            word, many = (4, 8)[number % 2], 1 + number % 3
            events = [(rng.randrange(4), *drawn_event(rng, word, many)) for _ in range(rng.randrange(9))]
            turns = [(rng.randrange(many), rng.randrange(1, 3)) for _ in range(3)] + [(q, 1) for q in range(many)]
            machine = Machine(nop_book(word), events=events, turns=turns, processors=many, depth=number % 4)
            world = drawn_world(rng, machine)
            for q in range(many):
                alarm = rng.choice((None, 0, 1, 2, 3))
                world = with_own(world, q, alarm=alarm, status=rng.choice(STATUSES))
            plain = Plain(machine, world)
            for _ in range(4):
                world = closed(machine, world)
                plain.close()
                self.assertEqual(world.facts(), plain.facts())
                if world.left == 0:
                    break
                check_world(machine, world)

    def test_refused(self):
        world = start(machine_of(), (), (0,))
        self.assertEqual(refusal(closed, machine_of(processors=2), world), ("BadWorld", "world"))
        self.assertEqual(refusal(closed, machine_of(), None), ("BadWorld", "world"))


class Taking(unittest.TestCase):
    def setUp(self):
        machine = machine_of(processors=2)
        world = start(machine, (), (4, 5), vectors=(None, 9)).changed(moment=30)
        self.world = with_own(world, 1, saved=1, cause=2, lines=(3, 6), kept=7)

    def test_can_take(self):
        for mode in (0, 1):
            for vector in (None, 0, 15):
                for status in STATUSES:
                    for lines in ((), (7,), (1, 2)):
                        world = with_own(self.world, 0, mode=mode, vector=vector, status=status, lines=lines)
                        wanted = mode == 0 and vector is not None and status in ("on", "resting") and lines != ()
                        self.assertIs(can_take(world, 0), wanted)
        self.assertIs(can_take(self.world, 1), True)

    def test_taken(self):
        for cause in (1, 15):
            wanted = {"noted": ((30, 1, cause, 5),), ("saved", 1): 5, ("cause", 1): cause, ("mode", 1): 1,
                      ("place", 1): 9}
            self.assertEqual(apart(self.world, taken(self.world, 1, cause)), wanted)
        # Neither the mode nor the status is looked at, and what was noted stays.
        for status in STATUSES:
            world = with_own(self.world, 1, status=status, mode=1).changed(noted=((1, 0, 3, 3),))
            wanted = {"noted": ((1, 0, 3, 3), (30, 1, 8, 5)), ("saved", 1): 5, ("cause", 1): 8, ("place", 1): 9}
            self.assertEqual(apart(world, taken(world, 1, 8)), wanted)

    def test_faulted(self):
        for cause in (1, 10, 15):
            self.assertEqual(faulted(self.world, 1, cause), taken(self.world, 1, cause))
        for q, more in ((0, {}), (1, {"mode": 1}), (1, {"vector": None}), (1, {"mode": 1, "vector": None})):
            for status in STATUSES:
                world = with_own(self.world, q, status=status, **more)
                wanted = {"noted": ((30, q, 12, 4 + q),), ("cause", q): 12, ("status", q): "fallen"}
                if status == "fallen":
                    del wanted[("status", q)]
                self.assertEqual(apart(world, faulted(world, q, 12)), wanted)
        # A processor of any status that is ready takes.
        for status in STATUSES:
            world = with_own(self.world, 1, status=status)
            self.assertEqual(faulted(world, 1, 9), taken(world, 1, 9))

    def test_refused(self):
        before = self.world.facts()
        for q in (-1, 2, *WRONG_NUMBERS):
            self.assertEqual(refusal(can_take, self.world, q), ("BadNumber", "q"))
            for call in (taken, faulted):
                self.assertEqual(refusal(call, self.world, q, 0), ("BadNumber", "q"))
        for cause in (0, 16, -1, *WRONG_NUMBERS):
            for call in (taken, faulted):
                self.assertEqual(refusal(call, self.world, 0, cause), ("BadNumber", "cause"))
        self.assertEqual(refusal(taken, self.world, 0, 3), ("BadWorld", "vector"))
        self.assertEqual(self.world.facts(), before)


if __name__ == "__main__":
    unittest.main()
