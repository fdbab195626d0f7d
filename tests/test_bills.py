"""Bills and their bounds ([189], [190], [226], [230])."""

import random
import unittest

from helpers import WRONG_NUMBERS, refusal
from plain import BOOKS
from riding import drawn_case, drawn_pair, drawn_picks, drawn_ways, jumping_book, jumping_case, long_pair, worlds_of
from selfwritten.bills import bill, bill_ahead, dearest, keeps_bounds
from selfwritten.books import Book
from selfwritten.fasts import Fast
from selfwritten.happenings import start
from selfwritten.machines import Machine
from selfwritten.requests import requests
from selfwritten.roads import straight
from selfwritten.rows import Row
from selfwritten.throwing import least
from worldly import machine_of


def own_bounds(fast):
    more = 1 if fast.riding() is not None or fast.waiting is not None else 0
    slots = []
    for entry in fast.store.entries():
        row = fast.store.row_at(entry)
        slots += [step[2] for step in row.steps if step[0] == "load"] + [step[1] for step in row.steps if step[0] == "save"]
        slots += [late[1] for late in row.late if late[0] == "slot"]
    return (fast.house_steps <= fast.pair.c * (fast.road_steps + more) and fast.written <= fast.pair.d * fast.made
            and all(slot < fast.pair.r for slot in slots))


class Bills(unittest.TestCase):
    def test_bounds_behind_every_deed(self):
        rng = random.Random(189)
        for number in range(100):
            machine, pair, world = jumping_case(rng) if number % 3 == 0 else drawn_case(rng)
            fast = Fast(machine, pair, world, **drawn_ways(rng, machine, pair, worlds_of(machine, world, 50)))
            name = ""
            while name != "none":
                name = fast.deed(50)
                self.assertTrue(keeps_bounds(fast))
                self.assertTrue(own_bounds(fast))
                self.assertEqual(bill(fast), (fast.house_steps, fast.road_steps, fast.written, fast.made))

    def test_each_bound_alone(self):
        machine = machine_of()
        pair = long_pair(random.Random(0), machine.book, 1)
        world = start(machine, (), (0,))
        late = [("slot", 0), ("num", 1)]
        good = Row([("end",)], late, [(1, 0), (1, 0)])
        road = straight(machine, world, 0, 1)
        for row, wanted in ((good, True), (Row([("load", 0, pair.r), ("end",)], late, good.hands), False),
                            (Row([("save", pair.r, 0), ("end",)], late, good.hands), False),
                            (Row([("end",)], [("slot", pair.r), ("num", 1)], [(1, 1), (1, 1)]), False),
                            (Row([("load", 0, pair.r - 1), ("save", pair.r - 1, 0), ("end",)], [*late, ("num", 99 % 16)], good.hands), True)):
            fast = Fast(machine, pair, world)
            fast.store.put(road, row)
            self.assertIs(keeps_bounds(fast), wanted)
        # Rows that are longer than they may be: one too many of c steps, and of d steps.
        for many in range(1, pair.c * 3):
            row = Row([("load", 0, 0)] * many + [("end",)], late, good.hands)
            fast = Fast(machine, pair, world, forced=[((0,), row)])
            told = []
            while fast.deed(1) != "none":
                told.append((keeps_bounds(fast), own_bounds(fast)))
            self.assertTrue(all(one == other for one, other in told))
            self.assertEqual(told[-1][0], many + 1 <= pair.c)
        row = Row([("load", 0, 0)] * pair.d + [("end",)], late, good.hands)
        fast = Fast(machine, pair, world, forced=[((0,), row)])
        self.assertEqual((fast.deed(1), keeps_bounds(fast)), ("make", False))

    def test_a_ride_and_a_waiting_cause_add_one(self):
        book = Book(4, 1, [("no", ("0001",), [("get", 0), ("must", 0, 13)])])
        machine = Machine(book)
        pair = long_pair(random.Random(0), book, 1)
        fast = Fast(machine, pair, start(machine, (1,), (0,)))
        told = []
        while fast.deed(9) != "none":
            told.append((fast.road_steps, fast.house_steps, keeps_bounds(fast)))
        self.assertIn((0, 4, True), told)
        self.assertTrue(all(one[2] for one in told))

    def test_dearest(self):
        forms = [("a", ("0000",), [("get", 0), ("goto", 0)]), ("b", ("0001",), [("get", 0)]), ("c", ("0010",), [("in", 0), ("put", 0, 0)]),
                 ("d", ("0011",), [("in", 1), ("put", 0, 0)])]
        for names, wanted in (("a", None), ("ab", "b"), ("abcd", "c"), ("abdc", "d"), ("b", "b"), ("dcb", "d")):
            book = Book(4, 1, [form for name in names for form in forms if form[0] == name])
            self.assertEqual(dearest(long_pair(random.Random(0), book, 1)), wanted)
        rng = random.Random(190)
        for _ in range(30):
            pair = drawn_pair(rng, rng.choice((BOOKS[4], jumping_book())))
            costs = {form.name: pair.cost(form.name) for form in pair.book.forms if form.goto is None}
            wanted = [name for name in costs if costs[name] == max(costs.values())][0]
            self.assertEqual(dearest(pair), wanted)

    def test_bill_ahead_against_the_fast_machine(self):
        rng = random.Random(1189)
        for number in range(80):
            machine, pair, world = jumping_case(rng) if number % 3 == 0 else drawn_case(rng)
            size, picks, longest = rng.randrange(1, 9), drawn_picks(rng), rng.randrange(1, pair.longest + 1)
            moment = rng.choice((0, 20, 60))
            fast = Fast(machine, pair, world, size=size, picks=picks, plan=((1, longest),))
            fast.run(moment)
            self.assertEqual(bill_ahead(machine, pair, world, moment, size, picks, longest),
                             (fast.house_steps, fast.written, fast.made))

    def test_idle_against_the_least(self):
        rng = random.Random(226)
        for _ in range(40):
            machine, pair, world = drawn_case(rng)
            longest, how = rng.randrange(1, pair.longest + 1), rng.choice((1, 2))
            asked = requests(machine, world, 60, longest)
            for size in range(1, 9):
                fast = Fast(machine, pair, world, size=size, picks="idle", plan=((how, longest),))
                fast.run(60)
                for lesser in range(1, size + 1):
                    self.assertLessEqual((size - lesser + 1) * fast.written, pair.d * size * least(asked, lesser))

    def test_refused(self):
        machine = machine_of()
        pair = long_pair(random.Random(0), machine.book, 1, longest=4)
        other = long_pair(random.Random(0), Book(4, 1, [("nap", ("0000",), ())]), 1)
        world = start(machine, (), (0,))
        self.assertEqual(refusal(bill_ahead, machine, other, None, -1, 0, 0, 0), ("BadPair",))
        for wrong in (None, start(machine_of(5), (), (0,)), world.changed(left=2)):
            self.assertEqual(refusal(bill_ahead, machine, pair, wrong, -1, 0, 0, 0), ("BadWorld", "world"))
        for moment in (-1, *WRONG_NUMBERS):
            self.assertEqual(refusal(bill_ahead, machine, pair, world, moment, 0, 0, 0), ("BadNumber", "moment"))
        for size in (0, 9, *WRONG_NUMBERS):
            self.assertEqual(refusal(bill_ahead, machine, pair, world, 9, size, 0, 0), ("BadNumber", "size"))
        for picks in ("none", None, (-1,)):
            self.assertEqual(refusal(bill_ahead, machine, pair, world, 9, 1, picks, 0), ("BadPlan", 0))
        for longest in (0, 5, *WRONG_NUMBERS):
            self.assertEqual(refusal(bill_ahead, machine, pair, world, 9, 1, (), longest), ("BadNumber", "longest"))
        self.assertEqual(bill_ahead(machine, pair, world, 0, 1, (), 4), (0, 0, 0))


if __name__ == "__main__":
    unittest.main()
