"""Desks ([196] to [200], [218])."""

import random
import time
import unittest

from helpers import WRONG_NUMBERS, refusal
from plain import BOOKS, drawn_machine, drawn_start
from riding import SLEEPY, drawn_pair, drawn_picks, drawn_plan, long_pair, sleepy_machine
from selfwritten.books import Book
from selfwritten.desks import Desk
from selfwritten.happenings import start
from selfwritten.runs import run
from selfwritten.saves import saved, world_of
from selfwritten.worlds import with_cell
from worldly import drawn_world, machine_of


class OwnDesk:
    """A desk of the tests, by the plain machine alone."""

    def __init__(self, machine, world, every):
        self.machine, self.every = machine, every
        self.here = self.farthest = world
        self.kept, self.gone = {world.moment: world}, 0

    def go(self, start, moment):
        """The worlds come to in a run from a world to a moment, the first one left out."""
        found = [start]
        while found[-1].moment < moment:
            after = run(self.machine, found[-1], found[-1].moment + 1)
            if after.moment == found[-1].moment:
                break
            found.append(after)
        self.gone += len(found) - 1
        self.here = found[-1]
        return found[1:]

    def stand_at(self, moment):
        if moment > self.farthest.moment:
            for world in self.go(self.farthest, moment):
                if world.moment % self.every == 0:
                    self.kept[world.moment] = world
            self.farthest = self.here
        else:
            best = max(kept for kept in self.kept if kept <= moment)
            self.go(self.here if best <= self.here.moment <= moment else self.kept[best], moment)
        return self.here

    def put_cell(self, x, word):
        self.here = self.farthest = with_cell(self.here, x, word)
        self.kept = {moment: world for moment, world in self.kept.items() if moment < self.here.moment}
        self.kept[self.here.moment] = self.here
        return self.here


def state(desk):
    return (desk.here, desk.gone, desk.kept_moments())


def drawn_maker(rng, book):
    pair = drawn_pair(rng, book)
    return [pair, rng.randrange(1, 9), drawn_picks(rng), drawn_plan(rng, pair)]


class Desks(unittest.TestCase):
    def drawn(self, rng):
        machine = drawn_machine(rng, 4)
        world = drawn_start(rng, machine) if rng.random() < 0.7 else drawn_world(rng, machine)
        return machine, run(machine, world, rng.choice((0, 0, 5, 9)))

    def test_against_own_desk_by_both_machines(self):
        rng = random.Random(196)
        for _ in range(60):
            machine, world = self.drawn(rng)
            every = rng.choice((1, 2, 3, 7, 8, 63, 64))
            desks = [Desk(machine, world, every=every), Desk(machine, world, every=every, fast=drawn_maker(rng, machine.book))]
            own = OwnDesk(machine, world, every)
            for _ in range(20):
                kind = rng.choice(("stand", "stand", "back", "put", "tried"))
                x, word = rng.randrange(16), rng.randrange(16)
                moment = world.moment + rng.choice((0, 1, rng.randrange(20), rng.randrange(90)))
                steps = rng.randrange(own.here.moment - world.moment + 1)
                before = own.gone
                if kind == "stand":
                    told, farthest = own.stand_at(moment), own.farthest.moment
                    found = [desk.stand_at(moment) for desk in desks]
                    if moment < farthest:
                        self.assertLessEqual(own.gone - before, every - 1)
                elif kind == "back":
                    told = own.stand_at(own.here.moment - steps)
                    found = [desk.back(steps) for desk in desks]
                elif kind == "put":
                    told = own.put_cell(x, word)
                    found = [desk.put_cell(x, word) for desk in desks]
                else:
                    twin = OwnDesk(machine, world, every)
                    twin.kept, twin.here, twin.farthest = dict(own.kept), own.here, own.farthest
                    twin.put_cell(x, word)
                    told = twin.stand_at(moment)
                    found = [desk.tried(moment, x, word) for desk in desks]
                self.assertEqual(found, [told, told])
                for desk in desks:
                    self.assertEqual(state(desk), (own.here, own.gone, tuple(sorted(own.kept))))

    def test_the_world_of_the_plain_run_from_the_settings_that_count(self):
        rng = random.Random(199)
        for _ in range(40):
            machine, world = self.drawn(rng)
            desk = Desk(machine, world, every=rng.randrange(1, 65), fast=rng.choice((None, drawn_maker(rng, machine.book))))
            # The first world, and the changed worlds of the settings that still count.
            changed = [world]
            for _ in range(12):
                moment = world.moment + rng.randrange(60)
                last = [one for one in changed if one.moment <= moment][-1]
                self.assertEqual(desk.stand_at(moment), run(machine, last, moment))
                if rng.random() < 0.4:
                    x, word = rng.randrange(16), rng.randrange(16)
                    wanted = with_cell(desk.here, x, word)
                    self.assertEqual(desk.put_cell(x, word), wanted)
                    changed = [one for one in changed if one.moment < wanted.moment] + [wanted]

    def test_a_moment_behind_the_end_of_the_run(self):
        machine = machine_of()
        world = start(machine, (0, 0, 0, 0, 0, 5), (0,))
        for maker in (None, (long_pair(random.Random(0), machine.book, 1), 2, "idle", ((1, 3),))):
            desk = Desk(machine, world, every=3, fast=maker)
            self.assertEqual(desk.stand_at(50), run(machine, world, 50))
            self.assertEqual((desk.here.moment, desk.gone, desk.kept_moments()), (6, 6, (0, 3, 6)))
            self.assertEqual((desk.stand_at(99).moment, desk.gone, desk.kept_moments()), (6, 6, (0, 3, 6)))
            self.assertEqual((desk.stand_at(5).moment, desk.gone), (5, 8))
            self.assertEqual((desk.stand_at(99).moment, desk.gone), (6, 8))
            self.assertEqual((desk.stand_at(2).moment, desk.stand_at(4).moment, desk.gone), (2, 4, 11))

    def test_setting_a_cell_at_a_kept_moment(self):
        machine = machine_of()
        desk = Desk(machine, start(machine, (), (0,)), every=4)
        desk.stand_at(13)
        desk.stand_at(8)
        self.assertEqual((desk.put_cell(3, 9).cells[3], desk.kept_moments(), desk.gone), (9, (0, 4, 8), 13))
        self.assertEqual((desk.stand_at(9).moment, desk.gone), (9, 14))
        desk.back(9)
        self.assertEqual((desk.here.cells[3], desk.put_cell(3, 7).cells[3], desk.kept_moments()), (0, 7, (0,)))
        self.assertEqual(desk.stand_at(3), run(machine, desk.back(0), 3))

    def test_here_is_gone_on_from(self):
        machine = machine_of(8)
        desk = Desk(machine, start(machine, (), (0,)), every=64)
        for moment, gone in ((40, 40), (30, 70), (35, 75), (35, 75), (39, 79), (34, 113), (64, 137), (50, 187), (63, 200), (64, 200)):
            self.assertEqual((desk.stand_at(moment).moment, desk.gone), (moment, gone))
        self.assertEqual(desk.kept_moments(), (0, 64))

    def test_attributes_and_own_copies(self):
        machine = machine_of()
        world = start(machine, (), (0,))
        desk = Desk(machine, world)
        self.assertIs(desk.machine, machine)
        self.assertEqual((desk.every, desk.here, desk.gone, desk.kept_moments()), (8, world, 0, (0,)))
        pair, picks, plan = long_pair(random.Random(0), machine.book, 1), [1], [[1, 3]]
        maker = [pair, 2, picks, plan]
        desk = Desk(machine, world, fast=maker)
        picks[0] = -1
        plan[0][0] = 9
        plan.append(None)
        maker.clear()
        self.assertEqual(desk.stand_at(20), run(machine, world, 20))
        self.assertEqual(desk.tried(30, 9, 3), run(machine, desk.here.changed(cells=desk.here.cells[:9] + (3,) + desk.here.cells[10:]), 30))

    def test_a_world_that_is_read(self):
        machine = machine_of()
        world = world_of(saved(start(machine, (), (0,)).changed(moment=77)))
        desk = Desk(machine, world, every=10)
        self.assertEqual((desk.stand_at(95).moment, desk.kept_moments(), desk.gone), (95, (77, 80, 90), 18))
        self.assertEqual(refusal(desk.stand_at, 76), ("BadNumber", "moment"))
        self.assertEqual(desk.stand_at(77), world)

    def test_many_moments(self):
        machine = sleepy_machine()
        world = start(machine, SLEEPY, (0, 1), vectors=(3, 3))
        begun = time.perf_counter()
        for maker in (None, (long_pair(random.Random(0), machine.book, 1), 2, "idle", ((1, 3),))):
            desk = Desk(machine, world, every=64, fast=maker)
            self.assertEqual(desk.stand_at(100000).moment, 100000)
            self.assertEqual(len(desk.kept_moments()), 100000 // 64 + 1)
            self.assertEqual((desk.back(30000).moment, desk.gone), (70000, 100000 + 70000 % 64))
        self.assertLess(time.perf_counter() - begun, 30)

    def test_refused(self):
        machine = machine_of()
        world = start(machine, (), (0,))
        pair = long_pair(random.Random(0), machine.book, 1, longest=4)
        other = long_pair(random.Random(0), Book(4, 1, [("nap", ("0000",), ())]), 1)
        for wrong in (None, start(machine_of(5), (), (0,)), world.changed(left=2)):
            self.assertEqual(refusal(Desk, machine, wrong, every=0, fast=0), ("BadWorld", "world"))
        for every in (0, 65, *WRONG_NUMBERS):
            self.assertEqual(refusal(Desk, machine, world, every=every, fast=0), ("BadNumber", "every"))
        for maker in (0, (), "fast", (pair,), (pair, 1, "idle"), (machine, 1, "idle", ((1, 1),)), (pair, 1, (), ((1, 1),), 0), pair,
                      {0: pair, 1: 1, 2: 2, 3: 3}):
            self.assertEqual(refusal(Desk, machine, world, fast=maker), ("BadPlan", -1))
        for maker, told in (((other, 0, 0, 0), ("BadPair",)), ((pair, 0, 0, 0), ("BadNumber", "size")), ((pair, 1, 0, 0), ("BadPlan", 0)),
                            ((pair, 1, (), 0), ("BadPlan", -1)), ((pair, 1, (), ((1, 1), (1, 5))), ("BadPlan", 1))):
            self.assertEqual(refusal(Desk, machine, world, fast=maker), told)
        desk = Desk(machine, run(machine, world, 3), every=4)
        desk.stand_at(9)
        before = state(desk)
        for moment in (2, -1, *WRONG_NUMBERS):
            self.assertEqual(refusal(desk.stand_at, moment), ("BadNumber", "moment"))
            self.assertEqual(refusal(desk.tried, moment, -1, -1), ("BadNumber", "moment"))
        for steps in (-1, 7, *WRONG_NUMBERS):
            self.assertEqual(refusal(desk.back, steps), ("BadNumber", "steps"))
        for wrong in (-1, 16, *WRONG_NUMBERS):
            self.assertEqual(refusal(desk.put_cell, wrong, -1), ("BadNumber", "x"))
            self.assertEqual(refusal(desk.put_cell, 3, wrong), ("BadNumber", "word"))
            self.assertEqual(refusal(desk.tried, 3, wrong, -1), ("BadNumber", "x"))
            self.assertEqual(refusal(desk.tried, 30, 3, wrong), ("BadNumber", "word"))
        self.assertEqual(state(desk), before)

    def test_a_run_that_cannot_go_on(self):
        machine = machine_of(processors=2)
        world = start(machine, (), (0, 0))
        world = world.with_processor(0, world.processors[0].changed(status="stopped"))
        desk = Desk(machine, world)
        self.assertEqual(desk.stand_at(0), world)
        self.assertEqual(refusal(desk.stand_at, 3), ("BadWorld", "world"))
        self.assertEqual(refusal(desk.tried, 3, 0, 0), ("BadWorld", "world"))
        self.assertEqual(state(desk), (world, 0, (0,)))


class Trials(unittest.TestCase):
    def setUp(self):
        self.machine = machine_of()
        self.desk = Desk(self.machine, start(self.machine, (), (0,)), every=3)
        self.desk.stand_at(8)

    def test_everything_is_as_it_was(self):
        before = state(self.desk)
        with self.desk.trying() as told:
            self.assertIs(told, self.desk)
            told.back(4)
            told.put_cell(5, 6)
            told.stand_at(40)
            self.assertNotEqual(state(self.desk), before)
        self.assertEqual(state(self.desk), before)
        self.assertEqual(self.desk.stand_at(12), run(self.machine, before[0], 12))
        self.assertEqual((self.desk.gone, self.desk.kept_moments()), (12, (0, 3, 6, 9, 12)))

    def test_left_by_an_error(self):
        before = state(self.desk)
        with self.assertRaises(ZeroDivisionError):
            with self.desk.trying() as told:
                told.stand_at(20)
                told.put_cell(0, 9)
                raise ZeroDivisionError
        self.assertEqual(state(self.desk), before)
        with self.desk.trying() as told:
            self.assertEqual(refusal(told.stand_at, -1), ("BadNumber", "moment"))
            told.put_cell(0, 9)
        self.assertEqual(state(self.desk), before)

    def test_trials_in_trials(self):
        first = state(self.desk)
        with self.desk.trying():
            self.desk.put_cell(1, 2)
            self.desk.stand_at(10)
            second = state(self.desk)
            with self.desk.trying():
                self.desk.back(8)
                self.desk.put_cell(3, 4)
                with self.desk.trying():
                    self.desk.stand_at(30)
            self.assertEqual(state(self.desk), second)
            self.assertEqual(self.desk.stand_at(11), run(self.machine, second[0], 11))
        self.assertEqual(state(self.desk), first)

    def test_as_it_was_when_the_block_began(self):
        trial = self.desk.trying()
        self.desk.stand_at(14)
        before = state(self.desk)
        with trial:
            self.desk.stand_at(2)
        self.assertEqual(state(self.desk), before)

    def test_returned_from(self):
        def told():
            with self.desk.trying() as desk:
                return desk.put_cell(4, 4)
        before = state(self.desk)
        self.assertEqual(told().cells[4], 4)
        self.assertEqual(state(self.desk), before)


if __name__ == "__main__":
    unittest.main()
