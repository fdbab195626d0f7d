"""Until something is so ([201])."""

import random
import time
import unittest

from helpers import WRONG_NUMBERS, WRONG_ROWS, refusal
from plain import drawn_machine, drawn_start
from riding import SLEEPY, drawn_case, drawn_ways, jumping_case, long_pair, sleepy_machine, worlds_of
from selfwritten.fasts import Fast
from selfwritten.happenings import start
from selfwritten.runs import run, trail
from selfwritten.untils import changed_fast, changed_plain, until_fast, until_plain
from worldly import drawn_world, machine_of


def own_until(machine, world, moment, places):
    for after in list(trail(machine, world, moment))[1:]:
        if after.processors[machine.turns[after.turn][0]].place in places:
            return after
    return None


def own_changed(machine, world, moment, x):
    for after in list(trail(machine, world, moment))[1:]:
        if after.cells[x] != world.cells[x]:
            return after
    return None


def drawn_cell(rng, machine, world):
    """A cell, often one that the run changes."""
    last = run(machine, world, world.moment + 60)
    changed = [x for x in range(16) if last.cells[x] != world.cells[x]]
    return rng.choice(changed) if changed and rng.random() < 0.8 else rng.randrange(16)


class Untils(unittest.TestCase):
    def test_plain_against_own(self):
        rng = random.Random(201)
        found = {}
        for _ in range(200):
            machine = drawn_machine(rng, 4)
            world = drawn_start(rng, machine) if rng.random() < 0.6 else drawn_world(rng, machine)
            world = run(machine, world, rng.randrange(9))
            moment = rng.choice((0, 5, 60))
            places = rng.choice((tuple, list))([rng.randrange(16) for _ in range(rng.randrange(4))])
            told = until_plain(machine, world, moment, places)
            self.assertEqual(told, own_until(machine, world, moment, places))
            found["until", told is None] = True
            x = drawn_cell(rng, machine, world)
            told = changed_plain(machine, world, moment, x)
            self.assertEqual(told, own_changed(machine, world, moment, x))
            found["changed", told is None] = True
        self.assertEqual(len(found), 4)

    def test_fast_against_plain_from_its_meaning(self):
        rng = random.Random(1201)
        found = {}
        for number in range(150):
            machine, pair, world = jumping_case(rng) if number % 4 == 0 else drawn_case(rng)
            ways = drawn_ways(rng, machine, pair, worlds_of(machine, world, 40))
            fast, twin = Fast(machine, pair, world, **ways), Fast(machine, pair, world, **ways)
            for _ in range(4):
                for _ in range(rng.choice((0, 0, 3, 20))):
                    self.assertEqual(fast.deed(30), twin.deed(30))
                begin = fast.meaning()
                moment, x = rng.choice((0, begin.moment, begin.moment + 3, 60)), drawn_cell(rng, machine, begin)
                places = [rng.randrange(16) for _ in range(rng.randrange(4))]
                kind = rng.choice(("until", "changed"))
                if kind == "until":
                    told, wanted = until_fast(fast, moment, places), until_plain(machine, begin, moment, places)
                else:
                    told, wanted = changed_fast(fast, moment, x), changed_plain(machine, begin, moment, x)
                self.assertEqual(told, wanted)
                found[kind, told is None] = True
                self.go_on(twin, begin.moment, moment, told)
                # The fast machine stays as it is then.
                self.assertEqual((fast.world, fast.riding(), fast.lefts(), fast.house_steps, fast.waiting),
                                 (twin.world, twin.riding(), twin.lefts(), twin.house_steps, twin.waiting))
        self.assertEqual(len(found), 4)

    def go_on(self, fast, begin, moment, world):
        """Does the deeds of the search: up to the first one behind which the world is found, or there is none."""
        while True:
            name = fast.deed(moment)
            meant = fast.meaning()
            if name == "none" or meant.moment > moment:
                return
            if meant.moment > begin and meant == world:
                return

    def test_the_first_world_does_not_count(self):
        machine = machine_of()
        world = start(machine, (), (0,))
        self.assertEqual(until_plain(machine, world, 40, (0,)).moment, 16)
        self.assertIsNone(until_plain(machine, world, 15, (0,)))
        self.assertIsNone(until_plain(machine, world, 40, ()))
        pair = long_pair(random.Random(0), machine.book, 1)
        self.assertEqual(until_fast(Fast(machine, pair, world), 40, [0]).moment, 16)
        self.assertIsNone(until_fast(Fast(machine, pair, world), 15, (0,)))

    def test_whatever_its_status(self):
        machine = machine_of()
        world = start(machine, (0, 0, 9), (0,))
        self.assertEqual(until_plain(machine, world, 9, (2,)).moment, 2)
        fallen = until_plain(machine, run(machine, world, 2), 9, (2,))
        self.assertEqual((fallen.moment, fallen.processors[0].status), (3, "fallen"))
        self.assertIsNone(until_plain(machine, fallen, 9, (2,)))

    def test_a_moment_that_falls(self):
        machine = machine_of()
        pair = long_pair(random.Random(0), machine.book, 1)
        fast = Fast(machine, pair, start(machine, (), (0,)), plan=((1, 8),))
        for _ in range(4):
            fast.deed(30)
        self.assertEqual((fast.world.moment, fast.meaning().moment), (2, 3))
        self.assertIsNone(until_fast(fast, 2, (0, 1, 2, 3, 4)))
        self.assertEqual(fast.riding(), None)

    def test_sleep(self):
        machine = sleepy_machine()
        world = start(machine, SLEEPY, (0, 1), vectors=(3, 3))
        begun = time.perf_counter()
        pair = long_pair(random.Random(0), machine.book, 1)
        for places in ((2,), (3,), (9,)):
            wanted = own_until(machine, world, 30000, places)
            self.assertEqual(until_plain(machine, world, 30000, places), wanted)
            self.assertEqual(until_fast(Fast(machine, pair, world), 30000, places), wanted)
        self.assertIsNone(until_plain(machine, world, 100000, (9,)))
        self.assertIsNone(until_fast(Fast(machine, pair, world), 100000, (9,)))
        for moment, word in ((7, 7), (15020, 12)):
            self.assertEqual(changed_plain(machine, run(machine, world, moment - 7), 100000, 9).moment, moment)
            fast = Fast(machine, pair, world)
            fast.run(moment - 7)
            self.assertEqual(changed_fast(fast, 100000, 9).cells[9], word)
        self.assertLess(time.perf_counter() - begun, 20)

    def test_refused(self):
        machine = machine_of()
        world = start(machine, (), (0,))
        fast = Fast(machine, long_pair(random.Random(0), machine.book, 1), world)
        for wrong in (None, start(machine_of(5), (), (0,)), world.changed(left=2)):
            self.assertEqual(refusal(until_plain, machine, wrong, -1, 0), ("BadWorld", "world"))
            self.assertEqual(refusal(changed_plain, machine, wrong, -1, -1), ("BadWorld", "world"))
        for moment in (-1, *WRONG_NUMBERS):
            self.assertEqual(refusal(until_plain, machine, world, moment, 0), ("BadNumber", "moment"))
            self.assertEqual(refusal(until_fast, fast, moment, 0), ("BadNumber", "moment"))
            self.assertEqual(refusal(changed_plain, machine, world, moment, -1), ("BadNumber", "moment"))
            self.assertEqual(refusal(changed_fast, fast, moment, -1), ("BadNumber", "moment"))
        for places in WRONG_ROWS:
            self.assertEqual(refusal(until_plain, machine, world, 9, places), ("BadWords", -1))
            self.assertEqual(refusal(until_fast, fast, 9, places), ("BadWords", -1))
        for wrong in (-1, 16, *WRONG_NUMBERS):
            self.assertEqual(refusal(until_plain, machine, world, 9, (3, wrong)), ("BadWords", 1))
            self.assertEqual(refusal(until_fast, fast, 9, [wrong, 16]), ("BadWords", 0))
            self.assertEqual(refusal(changed_plain, machine, world, 9, wrong), ("BadNumber", "x"))
            self.assertEqual(refusal(changed_fast, fast, 9, wrong), ("BadNumber", "x"))
        self.assertEqual((fast.world, fast.made), (world, 0))


if __name__ == "__main__":
    unittest.main()
