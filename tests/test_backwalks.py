"""Walking back ([202], [203], [230])."""

import math
import random
import unittest

from helpers import WRONG_NUMBERS, refusal
from plain import drawn_machine, drawn_start
from riding import drawn_case
from selfwritten.backwalks import reach, walk_back, walk_cost, walk_moves
from selfwritten.fasts import Fast
from selfwritten.happenings import start
from selfwritten.runs import run, trail
from selfwritten.worlds import is_over
from worldly import machine_of


def least_costs(most, places):
    """The least cost of all plans for each length and number of places, all of them tried."""
    found = {}
    for s in range(1, places + 1):
        for length in range(1, most + 1):
            if length == 1:
                found[length, s] = 0
            elif s == 1:
                found[length, s] = length * (length - 1) // 2
            else:
                found[length, s] = min(m + found[length - m, s - 1] + found[m, s] for m in range(1, length))
    return found


def read_plan(moves, at, length, places):
    """Reads a plan of [202] from the moves; returns where it ends and how often each step is gone, or fails."""
    gone = [0] * length

    def go(many, first=0):
        for step in range(first, first + many):
            gone[step] += 1

    if length == 1:
        assert moves[at] == ("show",)
        return at + 1, gone
    if places == 1:
        for j in range(length - 1, 0, -1):
            assert moves[at:at + 3] == (("go", j), ("show",), ("load",))
            go(j)
            at += 3
        assert moves[at] == ("show",)
        return at + 1, gone
    name, m = moves[at]
    assert (name, moves[at + 1]) == ("go", ("keep",)) and 1 <= m < length
    go(m)
    at, later = read_plan(moves, at + 2, length - m, places - 1)
    for step, many in enumerate(later):
        gone[m + step] += many
    assert moves[at:at + 2] == (("drop",), ("load",))
    at, first = read_plan(moves, at + 2, m, places)
    for step, many in enumerate(first):
        gone[step] += many
    return at, gone


class Costs(unittest.TestCase):
    def test_against_all_plans(self):
        for (length, places), cost in least_costs(70, 8).items():
            self.assertEqual(walk_cost(length, places), cost)

    def test_against_the_words(self):
        rng = random.Random(203)
        for _ in range(300):
            length, places = rng.choice((rng.randrange(1, 500), rng.randrange(1, 10 ** 6 + 1))), rng.randrange(1, 61)
            if places == 1:
                continue
            r = 0
            while math.comb(places + r, places) < length:
                r += 1
            self.assertEqual(walk_cost(length, places), r * length - math.comb(places + r, places + 1))

    def test_edges(self):
        self.assertEqual([walk_cost(1, places) for places in (1, 2, 60)], [0, 0, 0])
        self.assertEqual([walk_cost(2, places) for places in (1, 2, 60)], [1, 1, 1])
        self.assertEqual(walk_cost(10 ** 6, 1), 10 ** 6 * (10 ** 6 - 1) // 2)
        self.assertEqual([reach(1, times) for times in (0, 1, 60)], [1, 2, 61])
        self.assertEqual((reach(60, 60), reach(60, 0), reach(4, 3)), (math.comb(120, 60), 1, 35))

    def test_reach_is_the_greatest_length(self):
        def fits(length, places, times):
            """Whether some plan goes no step more than so many times, all plans tried."""
            if length == 1:
                return True
            if places == 1:
                return length - 1 <= times
            return times > 0 and any(fits(m, places, times - 1) and fits(length - m, places - 1, times) for m in range(1, length))
        for places in (1, 2, 3):
            for times in (0, 1, 2):
                most = reach(places, times)
                self.assertTrue(fits(most, places, times))
                self.assertFalse(fits(most + 1, places, times))

    def test_refused(self):
        for call, most in ((walk_cost, 10 ** 6), (walk_moves, 400)):
            for length in (0, -1, most + 1, *WRONG_NUMBERS):
                self.assertEqual(refusal(call, length, 0), ("BadNumber", "length"))
            for places in (0, 61, *WRONG_NUMBERS):
                self.assertEqual(refusal(call, most, places), ("BadNumber", "places"))
        for places in (0, 61, *WRONG_NUMBERS):
            self.assertEqual(refusal(reach, places, -1), ("BadNumber", "places"))
        for times in (-1, 61, *WRONG_NUMBERS):
            self.assertEqual(refusal(reach, 60, times), ("BadNumber", "times"))


class Moves(unittest.TestCase):
    def test_plans_of_the_least_cost(self):
        for length in (*range(1, 40), 56, 84, 126, 252, 399, 400):
            for places in (1, 2, 3, 4, 5, 10, 59, 60):
                moves = walk_moves(length, places)
                self.assertIsInstance(moves, tuple)
                at, gone = read_plan(moves, 0, length, places)
                self.assertEqual(at, len(moves))
                self.assertEqual(sum(gone), walk_cost(length, places))
                self.assertEqual(sum(move[1] for move in moves if move[0] == "go"), walk_cost(length, places))
                r = 0
                while math.comb(places + r, places) < length:
                    r += 1
                self.assertLessEqual(max(gone), r)

    def test_what_is_kept(self):
        for length, places in ((1, 1), (30, 1), (30, 3), (400, 5), (400, 60)):
            present, kept, shown, most = 0, [0], [], 1
            for move in walk_moves(length, places):
                if move[0] == "go":
                    present += move[1]
                elif move[0] == "keep":
                    kept.append(present)
                elif move[0] == "load":
                    present = kept[-1]
                elif move[0] == "drop":
                    kept.pop()
                else:
                    shown.append(present)
                most = max(most, len(kept))
            self.assertEqual(shown, list(range(length))[::-1])
            self.assertLessEqual(most, places)

    def test_walking_back(self):
        rng = random.Random(202)
        done = 0
        while done < 40:
            machine = drawn_machine(rng, 4)
            world = run(machine, drawn_start(rng, machine), rng.randrange(5))
            length, places = rng.choice((1, 2, 30, 60)), rng.randrange(1, 7)
            last = run(machine, world, world.moment + length - 1)
            if last.moment < world.moment + length - 1:
                self.assertEqual(refusal(walk_back, machine, world, length, places), ("BadWorld", "world"))
                continue
            shown, cost = walk_back(machine, world, length, places)
            self.assertIsInstance(shown, list)
            self.assertEqual(shown, list(trail(machine, world, last.moment))[::-1])
            self.assertEqual(cost, walk_cost(length, places))
            done += 1

    def test_a_run_that_is_over_at_the_last_world(self):
        machine = machine_of()
        world = start(machine, (0, 0, 0, 9), (0,))
        self.assertTrue(is_over(run(machine, world, 4)))
        self.assertEqual([shown.moment for shown in walk_back(machine, world, 5, 2)[0]], [4, 3, 2, 1, 0])
        self.assertEqual(refusal(walk_back, machine, world, 6, 2), ("BadWorld", "world"))

    def test_four_hundred_worlds(self):
        machine = machine_of()
        world = start(machine, (), (0,))
        for places in (1, 5, 60):
            shown, cost = walk_back(machine, world, 400, places)
            self.assertEqual((len(shown), shown[0].moment, shown[-1], cost), (400, 399, world, walk_cost(400, places)))

    def test_by_a_fast_machine_for_each_go(self):
        rng = random.Random(230)
        done = 0
        while done < 15:
            machine, pair, world = drawn_case(rng)
            length, places = rng.randrange(1, 30), rng.randrange(1, 5)
            wanted = list(trail(machine, world, length - 1))[::-1]
            if len(wanted) < length:
                continue
            present, kept, shown, steps = world, [world], [], 0
            for move in walk_moves(length, places):
                if move[0] == "go":
                    fast = Fast(machine, pair, present, plan=[(rng.choice((1, 2)), rng.randrange(1, pair.longest + 1))])
                    present = fast.run(present.moment + move[1])
                    steps += fast.house_steps
                elif move[0] == "keep":
                    kept.append(present)
                elif move[0] == "load":
                    present = kept[-1]
                elif move[0] == "drop":
                    kept.pop()
                else:
                    shown.append(present)
            self.assertEqual(shown, wanted)
            self.assertLessEqual(steps, pair.c * walk_cost(length, places))
            done += 1

    def test_refused(self):
        machine = machine_of(processors=2)
        world = start(machine, (), (0, 0))
        for wrong in (None, start(machine_of(5), (), (0,)), world.changed(left=2)):
            self.assertEqual(refusal(walk_back, machine, wrong, 0, 0), ("BadWorld", "world"))
        for length in (0, 401, *WRONG_NUMBERS):
            self.assertEqual(refusal(walk_back, machine, world, length, 0), ("BadNumber", "length"))
        for places in (0, 61, *WRONG_NUMBERS):
            self.assertEqual(refusal(walk_back, machine, world, 400, places), ("BadNumber", "places"))
        ended = world.with_processor(0, world.processors[0].changed(status="stopped"))
        self.assertEqual(refusal(walk_back, machine, ended, 2, 0), ("BadNumber", "places"))
        self.assertEqual(refusal(walk_back, machine, ended, 2, 1), ("BadWorld", "world"))
        self.assertEqual(walk_back(machine, ended, 1, 1), ([ended], 0))


if __name__ == "__main__":
    unittest.main()
