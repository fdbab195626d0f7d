"""Requests of runs ([185], [186], [229])."""

import random
import unittest

from helpers import WRONG_NUMBERS, refusal
from plain import BOOKS
from quick import OwnFast
from riding import SLEEPY, drawn_case, drawn_pair, drawn_picks, jumping_case, sleepy_machine
from selfwritten.fasts import Fast
from selfwritten.happenings import start
from selfwritten.machines import Machine
from selfwritten.requests import enterings_of, requests
from selfwritten.runs import run
from selfwritten.throwing import least, made_by
from worldly import drawn_world, machine_of


class Roomy(OwnFast):
    """A fast machine with room for all roads, which writes down what it asks of its store."""

    def __init__(self, machine, pair, world, plan):
        OwnFast.__init__(self, machine, pair, world, 10 ** 6, "oldest", False, plan)
        self.asked = []

    def enter(self, q, own, behind):
        self.asked.append((own["place"], True))
        return OwnFast.enter(self, q, own, behind)

    def watch(self):
        before = sorted(self.store.rows)
        OwnFast.watch(self)
        self.asked += [(entry, False) for entry in before if entry not in self.store.rows]


def own_requests(machine, pair, world, moment, how, longest):
    own = Roomy(machine, pair, world, [(how, longest)])
    while own.deed(moment) != "none":
        pass
    return tuple(own.entered), tuple(own.asked)


class Requests(unittest.TestCase):
    def test_against_a_machine_with_room_for_all(self):
        rng = random.Random(185)
        marks = 0
        for number in range(150):
            machine, pair, world = jumping_case(rng) if number % 4 == 0 else drawn_case(rng)
            world = drawn_world(rng, machine) if number % 5 == 0 else world
            moment, longest = rng.choice((0, 10, 60)), rng.randrange(1, pair.longest + 1)
            entered, asked = own_requests(machine, pair, world, moment, rng.choice((1, 2)), longest)
            self.assertEqual(enterings_of(machine, world, moment, longest), entered)
            self.assertEqual(requests(machine, world, moment, longest), asked)
            marks += len([entry for entry, used in asked if not used])
        self.assertGreater(marks, 15)

    def test_a_place_that_is_written_and_set_back_in_one_step(self):
        # An event sets back at once what a store has written: in a ride the road is thrown out all the same.
        machine = Machine(BOOKS[4], events=[(1, "cell", 1, 0)])
        world = start(machine, [6] + [0] * 15, (0,))
        world = world.with_processor(0, world.processors[0].changed(regs=(1, 5)))
        self.assertEqual(requests(machine, world, 3, 4), ((0, True), (0, False), (1, True)))
        self.assertEqual(requests(machine, world, 3, 1)[:2], ((0, True), (1, True)))

    def test_the_makings_of_a_fast_machine(self):
        rng = random.Random(186)
        for _ in range(60):
            machine, pair, world = drawn_case(rng)
            longest = rng.randrange(1, pair.longest + 1)
            asked = requests(machine, world, 60, longest)
            entered = enterings_of(machine, world, 60, longest)
            self.assertEqual(len([entry for entry, used in asked if used]), len(entered))
            for size in range(1, 9):
                picks = drawn_picks(rng)
                fast = Fast(machine, drawn_pair(rng, machine.book, longest=8), world, size=size, picks=picks,
                            links=rng.random() < 0.5, plan=[(rng.choice((1, 2)), longest)])
                fast.run(60)
                self.assertEqual(fast.made, made_by(picks, asked, size))
                self.assertEqual(fast.enterings(), entered)
                self.assertGreaterEqual(fast.made, least(asked, size))

    def test_few_places_and_a_store_of_eight(self):
        rng = random.Random(229)
        done = 0
        for _ in range(150):
            machine, pair, world = drawn_case(rng)
            longest = rng.randrange(1, pair.longest + 1)
            asked = requests(machine, world, 80, longest)
            if len({entry for entry, used in asked if used}) > 8:
                continue
            firsts, fresh = 0, set()
            for entry, used in asked:
                firsts += used and entry not in fresh
                (fresh.add if used else fresh.discard)(entry)
            for size in range(1, 9):
                fast = Fast(machine, pair, world, size=size, picks=drawn_picks(rng), plan=[(2, longest)])
                fast.run(80)
                self.assertGreaterEqual(fast.made, firsts)
                if size == 8:
                    self.assertEqual((fast.made, least(asked, 8)), (firsts, firsts))
            done += 1
        self.assertGreater(done, 40)

    def test_sleep(self):
        machine = sleepy_machine()
        world = start(machine, SLEEPY, (0, 1), vectors=(3, 3))
        pair = drawn_pair(random.Random(0), machine.book, longest=8)
        fast = Fast(machine, pair, world, size=8, plan=[(1, 3)])
        self.assertEqual(fast.run(100000), run(machine, world, 100000))
        self.assertEqual(enterings_of(machine, world, 100000, 3), fast.enterings())

    def test_refused(self):
        machine = machine_of()
        world = start(machine, (), (0,))
        for call in (enterings_of, requests):
            for wrong in (None, start(machine_of(5), (), (0,)), world.changed(left=2)):
                self.assertEqual(refusal(call, machine, wrong, -1, 0), ("BadWorld", "world"))
            for moment in (-1, *WRONG_NUMBERS):
                self.assertEqual(refusal(call, machine, world, moment, 0), ("BadNumber", "moment"))
            for longest in (0, 9, *WRONG_NUMBERS):
                self.assertEqual(refusal(call, machine, world, 9, longest), ("BadNumber", "longest"))
            self.assertEqual(call(machine, world, 0, 8), ())
            self.assertEqual(call(machine, world.changed(moment=9), 9, 8), ())


if __name__ == "__main__":
    unittest.main()
