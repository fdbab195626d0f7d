"""Runs deed by deed, and how often instructions are done ([170], cuts and counting)."""

import random
import unittest

from helpers import WRONG_NUMBERS, refusal
from plain import Plain
from riding import SLEEPY, drawn_case, drawn_pair, drawn_ways, jumping_case, sleepy_machine, worlds_of
from selfwritten.counting import done_counts, plain_counts
from selfwritten.cuts import cut, meanings
from selfwritten.fasts import Fast
from selfwritten.happenings import start
from selfwritten.runs import run
from worldly import machine_of


def own_counts(machine, world, moment):
    """How often the instruction at each place is done, by the plain machine of the tests."""
    plain, found = Plain(machine, world), {}
    while plain.moment < moment and not plain.over():
        place = plain.own[machine.turns[plain.turn][0]]["place"]
        if plain.step() == "done":
            found[place] = found.get(place, 0) + 1
    return tuple(sorted(found.items()))


class Cuts(unittest.TestCase):
    def drawn_two(self, rng, forced=False):
        machine, pair, world = drawn_case(rng)
        ways = drawn_ways(rng, machine, pair, worlds_of(machine, world, 40), forced)
        return Fast(machine, pair, world, **ways), Fast(machine, pair, world, **ways)

    def test_meanings_against_deeds(self):
        rng = random.Random(201)
        for _ in range(60):
            one, other = self.drawn_two(rng, forced=True)
            for moment in (rng.randrange(20), 40):
                found = list(meanings(one, moment))
                wanted = [other.meaning()]
                while other.deed(moment) != "none":
                    wanted.append(other.meaning())
                self.assertEqual(found, wanted)
                self.assertEqual(one.world, other.world)

    def test_each_meaning_is_the_one_before_or_the_next(self):
        rng = random.Random(1201)
        for _ in range(60):
            fast, _ = self.drawn_two(rng)
            worlds = worlds_of(fast.machine, fast.world, 40)
            at = 0
            for meant in meanings(fast, 40):
                at += meant != worlds[at]
                self.assertEqual(meant, worlds[at])
            self.assertEqual(at, len(worlds) - 1)

    def test_asked_for_one_by_one(self):
        machine = machine_of()
        pair = drawn_pair(random.Random(0), machine.book, longest=8)
        fast = Fast(machine, pair, start(machine, (), (0,)))
        told = meanings(fast, 9)
        self.assertEqual(next(told), fast.world)
        self.assertEqual((fast.made, next(told), fast.made), (0, fast.world, 1))

    def test_cut_against_deeds(self):
        rng = random.Random(2201)
        for _ in range(80):
            one, other = self.drawn_two(rng, forced=True)
            for _ in range(3):
                moment, deeds = rng.randrange(40), rng.choice((0, 1, 5, 60, 10 ** 6))
                found = cut(one, moment, deeds)
                for _ in range(deeds):
                    if other.deed(moment) == "none":
                        break
                self.assertEqual((found, one.world, one.riding()), (other.meaning(), other.world, other.riding()))
                self.assertEqual(one.lefts(), other.lefts())

    def test_refused(self):
        fast, _ = self.drawn_two(random.Random(0))
        world = fast.world
        for wrong in (-1, *WRONG_NUMBERS):
            told = meanings(fast, wrong)
            self.assertEqual(refusal(next, told), ("BadNumber", "moment"))
            self.assertEqual(refusal(cut, fast, wrong, -1), ("BadNumber", "moment"))
            self.assertEqual(refusal(cut, fast, 9, wrong), ("BadNumber", "deeds"))
        self.assertEqual((fast.world, fast.made, fast.riding()), (world, 0, None))


class Counts(unittest.TestCase):
    def test_against_own_counts(self):
        rng = random.Random(202)
        for number in range(120):
            machine, pair, world = jumping_case(rng) if number % 3 == 0 else drawn_case(rng)
            fast = Fast(machine, pair, world, **drawn_ways(rng, machine, pair, worlds_of(machine, world, 40)))
            self.assertEqual(done_counts(fast), ())
            for moment in (rng.randrange(30), 60):
                fast.run(moment)
                wanted = own_counts(machine, world, moment)
                self.assertEqual(plain_counts(machine, world, moment), wanted)
                self.assertEqual(done_counts(fast), wanted)

    def test_behind_each_deed(self):
        rng = random.Random(1202)
        for _ in range(40):
            machine, pair, world = drawn_case(rng)
            fast = Fast(machine, pair, world, **drawn_ways(rng, machine, pair, worlds_of(machine, world, 40)))
            name = ""
            while name != "none":
                name = fast.deed(30)
                if fast.riding() is None and fast.waiting is None:
                    self.assertEqual(done_counts(fast), own_counts(machine, world, fast.world.moment))

    def test_sleep(self):
        machine = sleepy_machine()
        world = start(machine, SLEEPY, (0, 1), vectors=(3, 3))
        self.assertEqual(plain_counts(machine, world, 100000), own_counts(machine, world, 100000))

    def test_refused(self):
        machine = machine_of()
        world = start(machine, (), (0,))
        for wrong in (-1, *WRONG_NUMBERS):
            self.assertEqual(refusal(plain_counts, machine, world, wrong), ("BadNumber", "moment"))
            self.assertEqual(refusal(plain_counts, machine, None, wrong), ("BadWorld", "world"))
        self.assertEqual(plain_counts(machine, world.changed(moment=5), 3), ())
        self.assertEqual(plain_counts(machine, world, 18), ((0, 2), (1, 2), *[(at, 1) for at in range(2, 16)]))


if __name__ == "__main__":
    unittest.main()
