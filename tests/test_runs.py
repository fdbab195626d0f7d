"""Runs and leaps ([81], [82]), and two depths ([84])."""

import random
import unittest
from unittest.mock import patch

from helpers import WRONG_NUMBERS, refusal
from plain import BOOKS, Plain, drawn_image, drawn_machine, drawn_start
from selfwritten.happenings import start
from selfwritten.machines import Machine
from selfwritten.memory import seen
from selfwritten.ports import asked
from selfwritten.runs import kinds, leap, run, run_leaping, trail
from selfwritten.steps import step
from selfwritten.worlds import is_over
from worldly import apart, machine_of, nop_book

NAP = [("nap", ["0001"], [("num", 1), ("out", 7, 0)]), ("nop", ["0000"], ())]


def with_own(world, q, **more):
    return world.with_processor(q, world.processors[q].changed(**more))


def steps_to(machine, world, moment):
    """The worlds of the run and the kinds of its steps, made by `step` alone."""
    worlds, told = [world], []
    while worlds[-1].moment < moment and not is_over(worlds[-1]):
        kind, world = step(machine, worlds[-1])
        worlds.append(world)
        told.append(kind)
    return worlds, told


class Runs(unittest.TestCase):
    def test_against_steps(self):
        rng = random.Random(81)
        for number in range(150):
            machine = drawn_machine(rng, (4, 8)[number % 2])
            world = drawn_start(rng, machine)
            worlds, told = steps_to(machine, world, 40)
            moment = rng.randrange(41)
            last = worlds[min(moment, len(worlds) - 1)]
            self.assertEqual(run(machine, world, moment), last)
            self.assertEqual(list(trail(machine, world, 40)), worlds)
            self.assertEqual(kinds(machine, world, 40), tuple(told))
            self.assertEqual(run_leaping(machine, world, 40), worlds[-1])
            # In two legs.
            first = run(machine, world, rng.randrange(moment + 1))
            self.assertEqual(run(machine, first, moment), last)

    def test_against_a_machine_of_the_tests(self):
        rng = random.Random(810)
        for _ in range(60):
            machine = drawn_machine(rng, 4)
            world = drawn_start(rng, machine)
            plain = Plain(machine, world)
            while plain.moment < 60 and not plain.over():
                plain.step()
            self.assertEqual(run(machine, world, 60).facts(), plain.facts())
            self.assertEqual(run_leaping(machine, world, 60).facts(), plain.facts())

    def test_no_step_is_made(self):
        machine = machine_of()
        world = start(machine, (), (0,)).changed(moment=5)
        over = with_own(world, 0, status="stopped")
        for one, moment in ((world, 5), (world, 4), (world, 0), (over, 9)):
            self.assertEqual(run(machine, one, moment), one)
            self.assertEqual(run_leaping(machine, one, moment), one)
            self.assertEqual(kinds(machine, one, moment), ())
            self.assertEqual(list(trail(machine, one, moment)), [one])
            self.assertEqual(leap(machine, one, moment), one)

    def test_many_moments(self):
        machine = Machine(BOOKS[4], depth=3, turns=[(0, 1000)])
        world = start(machine, (1, 9, 0, 4, 0), (0,))
        last = run(machine, world, 20000)
        self.assertEqual((last.moment, len(last.shown)), (20000, 6667))
        self.assertEqual(run(machine, run(machine, world, 7777), 20000), last)

    def test_the_trail_goes_on_as_far_as_it_is_asked(self):
        machine = machine_of()
        world = start(machine, (), (0,))
        worlds = trail(machine, world, 10 ** 9)
        self.assertEqual([next(worlds).moment for _ in range(5)], [0, 1, 2, 3, 4])


class Refusals(unittest.TestCase):
    def test_moments(self):
        machine = machine_of(processors=2)
        world = start(machine, (), (0, 0))
        for call in (run, kinds, leap, run_leaping):
            for moment in (-1, *WRONG_NUMBERS):
                self.assertEqual(refusal(call, machine, world, moment), ("BadNumber", "moment"))
                self.assertEqual(refusal(call, machine_of(), world, moment), ("BadWorld", "world"))

    def test_the_trail_checks_when_it_is_asked(self):
        machine = machine_of()
        world = start(machine, (), (0,))
        self.assertEqual(refusal(next, trail(machine, world, -1)), ("BadNumber", "moment"))
        self.assertEqual(refusal(next, trail(machine, None, -1)), ("BadWorld", "world"))
        self.assertIsNone(refusal(trail, machine, None, -1))

    def test_a_processor_that_has_ended_in_its_turn(self):
        machine = machine_of(processors=2)
        world = asked(machine, start(machine, (), (0, 0)), 0, ("out", 8, 0))[1]
        for call in (run, kinds, run_leaping):
            self.assertEqual(refusal(call, machine, world, 1), ("BadWorld", "world"))
            self.assertEqual(refusal(call, machine, world, -1), ("BadNumber", "moment"))
            self.assertIsNone(refusal(call, machine, world, 0))
        self.assertEqual(refusal(lambda: list(trail(machine, world, 1))), ("BadWorld", "world"))
        # A leap makes no step there.
        self.assertEqual(leap(machine, world, 9), world)


class Leaps(unittest.TestCase):
    def resting(self, *, turns=((0, 1000),), events=(), processors=1, **more):
        machine = Machine(nop_book(), turns=turns, events=events, processors=processors)
        return machine, with_own(start(machine, (), (0,) * processors), 0, status="resting", **more)

    def test_the_least_of_all(self):
        for more, moment, wanted in (
            ({}, 700, 700), ({}, 1001, 1000), ({}, 1, 1), ({"turns": [(0, 9)]}, 700, 9),
            ({"events": [(30, "key", 1)]}, 700, 30), ({"events": [(30, "cell", 1, 1), (1, "drain", 0)]}, 700, 1),
            ({"events": [(800, "key", 1)]}, 700, 700), ({"alarm": 40}, 700, 40), ({"alarm": 0}, 700, 700),
            ({"alarm": 1}, 700, 1), ({"alarm": 40, "events": [(40, "key", 1)]}, 40, 40),
        ):
            machine, world = self.resting(**more)
            after = leap(machine, world, moment)
            self.assertEqual(after.moment, wanted, more)
            self.assertEqual(after, run(machine, world, wanted))
            self.assertEqual(kinds(machine, world, wanted), ("idle",) * wanted)

    def test_alarms_of_others_of_any_status(self):
        for status in ("on", "resting", "stopped", "fallen"):
            machine, world = self.resting(turns=[(0, 50), (1, 1)], processors=2)
            world = with_own(world, 1, status=status, alarm=20)
            after = leap(machine, world, 99)
            self.assertEqual((after.moment, after.processors[1].lines, after.processors[1].alarm), (20, (1,), None))

    def test_the_events_of_the_last_moment_happen(self):
        machine, world = self.resting(events=[(30, "cell", 1, 9), (30, "key", 4)], alarm=30)
        wanted = {"moment": 30, "left": 970, ("cells", 1): 9, "typed": (4,), ("lines", 0): (1, 2), ("alarm", 0): None}
        self.assertEqual(apart(world, leap(machine, world, 99)), wanted)

    def test_events_and_alarms_of_the_present_moment_are_past(self):
        machine, world = self.resting(events=[(30, "cell", 1, 9), (50, "cell", 1, 8)], alarm=None)
        world = leap(machine, world, 99)
        self.assertEqual(world.moment, 30)
        self.assertEqual(leap(machine, world, 99).moment, 50)
        self.assertEqual(leap(machine, with_own(world, 0, alarm=30), 99).moment, 50)
        self.assertEqual(leap(machine, with_own(world, 0, alarm=31), 99).moment, 31)

    def test_no_step_is_made_where_a_leap_is_possible(self):
        machine, world = self.resting(turns=[(0, 7)])
        with patch("selfwritten.runs.stepped", side_effect=AssertionError):
            self.assertEqual(run_leaping(machine, world, 500).moment, 500)

    def test_the_turn_ends(self):
        machine, world = self.resting(turns=[(0, 5), (1, 3)], processors=2)
        self.assertEqual(apart(world, leap(machine, world, 99)), {"moment": 5, "turn": 1, "left": 3})

    def test_no_leap(self):
        machine, world = self.resting()
        for one in (with_own(world, 0, lines=(7,)), with_own(world, 0, status="on"), with_own(world, 0, status="fallen")):
            self.assertEqual(leap(machine, one, 50), one)
        for moment in (50, 49, 0):
            self.assertEqual(leap(machine, world.changed(moment=50), moment).moment, 50)
        # Only the processor of the present turn counts.
        machine, world = self.resting(turns=[(0, 5), (1, 3)], processors=2)
        world = world.changed(turn=1, left=2)
        self.assertEqual(leap(machine, world, 50), world)

    def test_sleeps_of_drawn_machines(self):
        rng = random.Random(82)
        slept = 0
        for _ in range(150):
            processors = rng.randrange(1, 4)
            events = [(rng.randrange(400), "line", rng.randrange(processors), rng.randrange(1, 8))
                      for _ in range(rng.randrange(6))]
            turns = [(q, rng.choice((1, 5, 90, 1000))) for q in range(processors)]
            machine = Machine(BOOKS[4], events=events, turns=turns, processors=processors)
            image = [rng.choice((9, 7, 0, 1, 8, 3, 9, 1)) for _ in range(16)]
            world = start(machine, image, [rng.randrange(16) for _ in range(processors)],
                          vectors=[rng.choice((None, rng.randrange(16))) for _ in range(processors)])
            worlds, told = steps_to(machine, world, 400)
            slept += told.count("idle")
            self.assertEqual(run_leaping(machine, world, 400), worlds[-1])
            for at in range(0, len(worlds), 17):
                after = leap(machine, worlds[at], 400)
                many = after.moment - worlds[at].moment
                self.assertEqual(after, worlds[at + many])
                self.assertEqual(told[at:at + many], ["idle"] * many)
                idle = at < len(told) and told[at] == "idle"
                self.assertEqual(many > 0, idle)
        self.assertGreater(slept, 1000)


class Depths(unittest.TestCase):
    def test_two_depths(self):
        rng = random.Random(84)
        whole, waited = 0, 0
        for _ in range(400):
            one = drawn_machine(rng, 4, book=BOOKS[4], processors=1, depth=rng.randrange(4), events=False)
            events = [(rng.randrange(30), "line", 0, rng.randrange(1, 8)) for _ in range(2)]
            one = Machine(one.book, depth=one.depth, events=events)
            other = Machine(one.book, depth=rng.randrange(4), events=events)
            world = start(one, drawn_image(rng, one), (rng.randrange(16),), vectors=(rng.choice((None, 3)),))
            first, second = world, world
            while first.moment < 40 and not is_over(first) and self.same_code(one, first) and self.same_code(other, second):
                first, second = step(one, first)[1], step(other, second)[1]
                names = {name if isinstance(name, str) else name[0] for name in apart(first, second)}
                self.assertLessEqual(names, {"cells", "buffer"})
                waited += "buffer" in names
                for x in range(16):
                    self.assertEqual(seen(one, first, 0, x), seen(other, second, 0, x))
            whole += first.moment == 40
        self.assertGreater(whole, 20)
        self.assertGreater(waited, 300)

    def same_code(self, machine, world):
        """Whether each cell that the next fetching looks at has the word seen there."""
        plain = Plain(machine, world)
        looks = plain.fetch(world.processors[0].place)[1]
        return all(seen(machine, world, 0, look[1]) == look[2] for look in looks if look[0] == "cell")


class Naps(unittest.TestCase):
    def test_a_signal_that_waits_twice_is_taken_once(self):
        from selfwritten.books import Book
        machine = Machine(Book(4, 1, NAP), events=[(2, "line", 0, 5), (3, "line", 0, 5), (3, "line", 0, 2)],
                          processors=2, turns=[(0, 1), (1, 9)])
        world = start(machine, (1, 0, 0, 0), (0, 2), vectors=(3, None))
        self.assertEqual(run(machine, world, 5).processors[0].lines, (2, 5))
        told = kinds(machine, run(machine, world, 10), 31)
        self.assertEqual((told[0], told[10], told[20]), ("taken", "done", "done"))
        self.assertEqual(run(machine, world, 31).processors[0].lines, (5,))


if __name__ == "__main__":
    unittest.main()
