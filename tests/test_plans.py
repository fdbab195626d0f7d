"""Plans, offers, and what is proposed ([166])."""

import random
import unittest

from helpers import WRONG_NUMBERS, WRONG_ROWS, refusal
from plain import BOOKS, drawn_machine, drawn_start
from riding import drawn_offers, drawn_pair, jumping_case, long_pair, worlds_of
from rowing import spoiled
from selfwritten.happenings import start
from selfwritten.mending import good_row
from selfwritten.plans import check_offers, check_plan, proposed
from selfwritten.roads import along, straight
from selfwritten.rows import Row
from selfwritten.templates import template
from selfwritten.trimming import trimmed
from worldly import machine_of

ROW = Row([("end",)], [("num", 0)], [(0, 0), (0, 0)])


def own_proposed(machine, pair, world, entry, how, longest, offers):
    """What is proposed, reckoned apart."""
    if how == 0:
        return None
    if how == 3:
        for places, row in offers:
            if places[0] != entry or len(places) > pair.longest or max(places) >= 2 ** machine.word:
                continue
            road = along(machine, world, places)
            if road is None or road.places != tuple(places):
                continue
            if row is None:
                return road, trimmed(pair, road)
            if good_row(pair, road, row):
                return road, row
    road = straight(machine, world, entry, longest)
    if road is None:
        return None
    return road, trimmed(pair, road) if how == 2 else template(pair, road)


class Checks(unittest.TestCase):
    def test_plans(self):
        plan = [[0, 1], (3, 8), [1, 4]]
        told = check_plan(plan)
        plan[0][0] = 9
        self.assertEqual(told, ((0, 1), (3, 8), (1, 4)))
        for wrong in (*WRONG_ROWS, (), []):
            self.assertEqual(refusal(check_plan, wrong), ("BadPlan", -1))
        entries = [(-1, 1), (4, 1), (1, 0), (1, 9), (1,), (1, 2, 3), (), 1, None, "12", {0: 1, 1: 2}]
        entries += [(wrong, 1) for wrong in WRONG_NUMBERS] + [(1, wrong) for wrong in WRONG_NUMBERS]
        for entry in entries:
            self.assertEqual(refusal(check_plan, [entry]), ("BadPlan", 0))
            self.assertEqual(refusal(check_plan, ((1, 1), (2, 2), entry, (9, 9))), ("BadPlan", 2))

    def test_offers(self):
        offers = [[[3, 400], ROW], ([0], None)]
        told = check_offers(offers)
        offers[0][0][0] = 7
        offers.pop()
        self.assertEqual(told, (((3, 400), ROW), ((0,), None)))
        self.assertIs(told[0][1], ROW)
        self.assertEqual(check_offers([]), ())
        for wrong in WRONG_ROWS:
            self.assertEqual(refusal(check_offers, wrong), ("BadPlan", -1))
        entries = [((), None), ((0,) * 9, None), ((-1,), None), (3, None), ("3", None), ((3,), 0), ((3,), "row"), ((3,), ()),
                   ((3,),), ((3,), None, None), None, 5, (), {0: 1, 1: 2}]
        entries += [((0, wrong), None) for wrong in WRONG_NUMBERS]
        for entry in entries:
            self.assertEqual(refusal(check_offers, [entry]), ("BadPlan", 0))
            self.assertEqual(refusal(check_offers, ([(1,), None], entry, 7)), ("BadPlan", 1))


class Proposed(unittest.TestCase):
    def test_each_how_against_own_proposals(self):
        rng = random.Random(166)
        kinds = {}
        for number in range(260):
            if number % 2:
                machine, pair, world = jumping_case(rng)
            else:
                machine = drawn_machine(rng, 4, book=BOOKS[4])
                pair, world = drawn_pair(rng, machine.book), drawn_start(rng, machine)
            worlds = worlds_of(machine, world, 40)
            offers = drawn_offers(rng, machine, pair, worlds)
            for how in range(4):
                entry = rng.choice([places[0] for places, _ in offers] or [3]) % 16
                longest = rng.randrange(1, pair.longest + 1)
                now = rng.choice(worlds)
                told = proposed(machine, pair, now, entry, how, longest, offers)
                self.assertEqual(told, own_proposed(machine, pair, now, entry, how, longest, offers))
                kinds[how, told and told[0].way[0]] = kinds.get((how, told and told[0].way[0]), 0) + 1
        self.assertEqual({kind for kind in kinds if kind[0] == 0}, {(0, None)})
        self.assertGreaterEqual(set(kinds), {(1, "straight"), (2, "straight"), (3, "straight"), (3, "along"), (1, None), (3, None)})
        self.assertGreater(kinds[3, "along"], 20)

    def test_what_suits(self):
        machine = machine_of()
        pair = long_pair(random.Random(0), machine.book, 1, longest=3)
        world = start(machine, (0, 0, 0, 5), (0,))
        straight_one = (straight(machine, world, 0, 2), template(pair, straight(machine, world, 0, 2)))
        for places, suits in (((0,), True), ((0, 1, 2), True), ((0, 1, 2, 3), False), ((1, 2), False), ((0, 2), False),
                              ((0, 16), False), ((0, 1, 16), False), ((0, 1, 2, 2, 2, 2, 2, 2), False), ((16,), False)):
            told = proposed(machine, pair, world, 0, 3, 2, [(places, None)])
            if suits:
                road = along(machine, world, places)
                self.assertEqual(told, (road, trimmed(pair, road)))
            else:
                self.assertEqual(told, straight_one, places)
        # The third place has no instruction.
        pair = long_pair(random.Random(0), machine.book, 1, longest=8)
        self.assertEqual(proposed(machine, pair, world, 1, 3, 1, [((1, 2, 3), None)])[0].way, ("straight", 1))
        self.assertIsNone(proposed(machine, pair, world, 3, 3, 1, [((3,), None)]))

    def test_the_first_offer_that_is_good(self):
        rng = random.Random(1166)
        machine = machine_of()
        pair = long_pair(rng, machine.book, 1)
        world = start(machine, (), (0,))
        road = along(machine, world, (0, 1))
        good = template(pair, road)
        bad = spoiled(random.Random(3), pair, good)
        while good_row(pair, road, bad):
            bad = spoiled(rng, pair, good)
        other = Row([("tick",), ("end",)], [("slot", 0), ("num", 0), ("num", 1), ("num", 2)], [(1, 0), (2, 0), (3, 0)])
        self.assertTrue(good_row(pair, road, other))
        told = proposed(machine, pair, world, 0, 3, 4, [((0, 1), bad), ((0, 1), other), ((0, 1), good)])
        self.assertEqual(told, (road, other))
        self.assertEqual(proposed(machine, pair, world, 0, 3, 4, [((0, 1), bad)])[0].way, ("straight", 4))
        self.assertEqual(proposed(machine, pair, world, 0, 1, 4, [((0, 1), other)])[0].way, ("straight", 4))

    def test_refused(self):
        machine = machine_of()
        pair = long_pair(random.Random(0), machine.book, 1, longest=4)
        world = start(machine, (), (0,))
        wrong = [None, start(machine_of(5), (), (0,)), world.changed(left=2)]
        for other in wrong:
            self.assertEqual(refusal(proposed, machine, pair, other, -1, -1, 0, 0), ("BadWorld", "world"))
        for entry in (-1, 16, *WRONG_NUMBERS):
            self.assertEqual(refusal(proposed, machine, pair, world, entry, -1, 0, 0), ("BadNumber", "entry"))
        for how in (-1, 4, *WRONG_NUMBERS):
            self.assertEqual(refusal(proposed, machine, pair, world, 0, how, 0, 0), ("BadNumber", "how"))
        for longest in (0, 5, *WRONG_NUMBERS):
            self.assertEqual(refusal(proposed, machine, pair, world, 0, 0, longest, 0), ("BadNumber", "longest"))
        self.assertEqual(refusal(proposed, machine, pair, world, 0, 0, 4, 0), ("BadPlan", -1))
        self.assertEqual(refusal(proposed, machine, pair, world, 0, 0, 4, [((0,), None), 0]), ("BadPlan", 1))


if __name__ == "__main__":
    unittest.main()
