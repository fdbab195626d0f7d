"""The fast machine ([168] to [173], [189], [190], [225], [231])."""

import random
import unittest

from helpers import WRONG_NUMBERS, refusal
from plain import BOOKS, drawn_machine, drawn_start, let_by_book
from quick import OwnFast
from riding import (drawn_case, drawn_limits, drawn_offers, drawn_pair, drawn_picks, drawn_ways, jumping_case, long_pair,
                    SLEEPY, sleepy_machine, worlds_of)
from selfwritten.books import Book
from selfwritten.bills import keeps_bounds
from selfwritten.counting import done_counts
from selfwritten.fasts import Fast
from selfwritten.happenings import start
from selfwritten.linking import force, links_of
from selfwritten.machines import Machine
from selfwritten.mending import good_row, mend
from selfwritten.roads import is_fresh, straight
from selfwritten.rows import Row
from selfwritten.runs import kinds, run
from selfwritten.stores import Store
from selfwritten.templates import base, template
from selfwritten.trimming import trimmed
from selfwritten.worlds import is_over, with_cell
from worldly import drawn_world, machine_of

COUNTS = ("house_steps", "road_steps", "made", "written", "followed", "looks")
NOP = ("nop", ("0000",), ())
ROW = Row([("end",)], [("num", 0)], [(0, 0), (0, 0)])


def with_own(world, q, **more):
    return world.with_processor(q, world.processors[q].changed(**more))


def bill(fast):
    return tuple(getattr(fast, name) for name in COUNTS)


class DeedByDeed(unittest.TestCase):
    def check_equal(self, fast, own):
        self.assertEqual(fast.meaning().facts(), own.meaning())
        if own.ride is None:
            self.assertEqual(fast.world.facts(), own.plain.facts())
            self.assertIsNone(fast.riding())
        else:
            self.assertEqual(fast.riding(), (own.ride.road.places[0], own.ride.done))
        self.assertEqual(bill(fast), tuple(own.counts[name] for name in COUNTS))
        self.assertEqual(fast.waiting, own.waiting)
        self.assertEqual(fast.store.made_order(), tuple(own.store.put_order))
        self.assertEqual(fast.store.used_order(), tuple(own.store.use_order))
        self.assertEqual(links_of(fast.store), tuple(sorted(own.store.links)))
        for entry, (road, row) in own.store.rows.items():
            self.assertEqual((fast.store.road_at(entry), fast.store.row_at(entry)), (road, row))

    def test_against_own_machine(self):
        rng = random.Random(168)
        names, causes = {}, {}
        for number in range(400):
            machine, pair, world = jumping_case(rng) if number % 3 == 0 else drawn_case(rng)
            if number % 3 == 1:
                machine, pair, world = drawn_case(rng, book=BOOKS[4], processors=1)
            moment = rng.choice((5, 30, 60, 90))
            ways = drawn_ways(rng, machine, pair, worlds_of(machine, world, moment), forced=number % 2 == 0)
            fast, own = Fast(machine, pair, world, **ways), OwnFast(machine, pair, world, **ways)
            limits = drawn_limits(rng, moment) + ([3, moment + 5] if number % 4 == 0 else [])
            for limit in limits:
                name = ""
                while name != "none":
                    name = fast.deed(limit)
                    names[name] = names.get(name, 0) + 1
                    self.assertEqual(own.deed(limit), name)
                    self.check_equal(fast, own)
            self.assertEqual((fast.enterings(), fast.lefts()), (tuple(own.entered), tuple(own.left)))
            self.assertEqual(done_counts(fast), tuple(sorted(own.done.items())))
            causes.update({left[4]: True for left in own.left})
        self.assertEqual(set(names), {"house", "take", "none", "plain", "link", "enter", "make"})
        for name in ("limit", "turn", "line", "rest", "thrown", "end", "place", "fault"):
            self.assertIn((name,), causes)
        self.assertIn(("limit", "turn"), causes)

    def test_worlds_in_which_anything_has_happened(self):
        rng = random.Random(1168)
        for _ in range(120):
            machine = drawn_machine(rng, 4, book=BOOKS[4])
            pair, world = drawn_pair(rng, machine.book), drawn_world(rng, machine)
            ways = drawn_ways(rng, machine, pair, worlds_of(machine, world, 30))
            fast, own = Fast(machine, pair, world, **ways), OwnFast(machine, pair, world, **ways)
            name = ""
            while name != "none":
                name = fast.deed(30)
                self.assertEqual(own.deed(30), name)
                self.check_equal(fast, own)

    def test_a_run_does_the_deeds(self):
        rng = random.Random(2168)
        for _ in range(120):
            machine, pair, world = drawn_case(rng)
            ways = drawn_ways(rng, machine, pair, worlds_of(machine, world, 40), forced=True)
            one, other = Fast(machine, pair, world, **ways), Fast(machine, pair, world, **ways)
            for limit in drawn_limits(rng, 60):
                while one.deed(limit) != "none":
                    pass
                self.assertEqual(other.run(limit), one.world)
                self.assertEqual(other.world, one.world)
                self.assertEqual((bill(one), one.enterings(), one.lefts()), (bill(other), other.enterings(), other.lefts()))
                self.assertEqual((links_of(one.store), one.store.used_order()), (links_of(other.store), other.store.used_order()))
                self.assertEqual(done_counts(one), done_counts(other))

    def test_long_sleep(self):
        machine = sleepy_machine()
        world = start(machine, SLEEPY, (0, 0), vectors=(3, 3))
        pair = long_pair(random.Random(0), machine.book, 1)
        fast = Fast(machine, pair, world)
        self.assertEqual(fast.run(100000), run(machine, world, 100000))
        steps = kinds(machine, world, 100000)
        self.assertGreater(steps.count("idle"), 90000)
        self.assertGreater(steps.count("done"), 30)


class Promise(unittest.TestCase):
    def check_run(self, rng, machine, pair, world, moment, **ways):
        """Goes through deeds; behind each one the meaning is a world of the plain run, and none is left out."""
        worlds = worlds_of(machine, world, moment + 9)
        fast = Fast(machine, pair, world, **ways)
        self.assertEqual(fast.meaning(), world)
        at = 0
        for limit in drawn_limits(rng, moment):
            name = ""
            while name != "none":
                name = fast.deed(limit)
                meant = fast.meaning()
                if name in ("plain", "take"):
                    at += 1
                elif name in ("enter", "house") and meant != worlds[at]:
                    at += 1
                self.assertEqual(meant, worlds[at], name)
                self.check_store(rng, machine, pair, fast)
                self.assertTrue(keeps_bounds(fast))
            self.assertEqual(fast.meaning(), run(machine, world, limit))
        return fast

    def check_store(self, rng, machine, pair, fast):
        entries = fast.store.entries()
        for entry in entries:
            self.assertTrue(is_fresh(machine, fast.world, fast.store.road_at(entry)))
        if entries and rng.random() < 0.01:
            entry = rng.choice(entries)
            self.assertTrue(good_row(pair, fast.store.road_at(entry), fast.store.row_at(entry)))
        for link in links_of(fast.store):
            self.assertLessEqual(set(link), set(entries))

    def test_main_promise(self):
        rng = random.Random(170)
        for number in range(220):
            machine, pair, world = jumping_case(rng) if number % 4 == 0 else drawn_case(rng)
            moment = rng.choice((5, 40, 80))
            ways = drawn_ways(rng, machine, pair, worlds_of(machine, world, moment))
            self.check_run(rng, machine, pair, world, moment, **ways)

    def test_images_that_write_over_their_own_code(self):
        rng = random.Random(215)
        thrown = 0
        for depth in range(4):
            for _ in range(12):
                machine = drawn_machine(rng, 4, book=BOOKS[4], processors=1, depth=depth)
                pair = drawn_pair(rng, machine.book, longest=8)
                world = drawn_start(rng, machine)
                # Stores run through the image and write where they are going.
                cells = [rng.choice((6, 6, 1, 7, 10, 5, word)) for word in world.cells]
                world = with_own(world.changed(cells=tuple(cells), rights=(7,) * 8), 0, regs=(rng.randrange(16), rng.randrange(16)))
                fast = self.check_run(rng, machine, pair, world, 60, size=8, plan=[(rng.choice((1, 2)), 8)])
                thrown += len([left for left in fast.lefts() if "thrown" in left[4]])
        self.assertGreater(thrown, 20)

    def test_wide_words(self):
        rng = random.Random(1170)
        for _ in range(12):
            machine = drawn_machine(rng, 8)
            pair = drawn_pair(rng, machine.book)
            world = drawn_start(rng, machine)
            self.check_run(rng, machine, pair, world, 60, **drawn_ways(rng, machine, pair, worlds_of(machine, world, 40)))

    def test_anything_is_put_into_the_store_and_mended(self):
        rng = random.Random(216)
        for _ in range(120):
            machine, pair, world = drawn_case(rng)
            other = drawn_start(rng, machine)
            worlds = worlds_of(machine, world, 60)
            fast = Fast(machine, pair, world, **drawn_ways(rng, machine, pair, worlds))
            at = 0
            for limit in (*drawn_limits(rng, 40), 50):
                name = ""
                while name != "none":
                    if fast.riding() is None and rng.random() < 0.1:
                        for image in (fast.world, other):
                            road = straight(machine, image, rng.randrange(16), rng.randrange(1, 9))
                            if road is not None:
                                fast.store.put(road, rng.choice((ROW, template(pair, road), trimmed(pair, road))))
                        force(fast.store, rng.randrange(16), rng.randrange(16))
                        fast.store.throw(rng.randrange(16))
                        mend(machine, pair, fast.world, fast.store)
                    name = fast.deed(limit)
                    meant = fast.meaning()
                    at += name in ("plain", "take") or (name in ("enter", "house") and meant != worlds[at])
                    self.assertEqual(meant, worlds[at])
                    self.check_store(rng, machine, pair, fast)

    def test_a_meaning_is_run_on(self):
        rng = random.Random(2170)
        for _ in range(60):
            machine, pair, world = drawn_case(rng)
            fast = Fast(machine, pair, world, **drawn_ways(rng, machine, pair, worlds_of(machine, world, 40)))
            for _ in range(rng.randrange(200)):
                fast.deed(40)
            wanted = run(machine, world, 50)
            self.assertEqual(run(machine, fast.meaning(), 50), wanted)
            other = drawn_pair(rng, machine.book)
            again = Fast(machine, other, fast.meaning(), **drawn_ways(rng, machine, other, worlds_of(machine, world, 40)))
            self.assertEqual(again.run(50), wanted)

    def test_links_change_no_world_and_no_making(self):
        rng = random.Random(171)
        followed = 0
        for _ in range(80):
            machine, pair, world = drawn_case(rng)
            ways = drawn_ways(rng, machine, pair, worlds_of(machine, world, 40), forced=True)
            one, other = [Fast(machine, pair, world, **dict(ways, links=links)) for links in (True, False)]
            for limit in drawn_limits(rng, 60):
                self.assertEqual(one.run(limit), other.run(limit))
                self.assertEqual(bill(one)[:4], bill(other)[:4])
                self.assertEqual((one.enterings(), one.lefts()), (other.enterings(), other.lefts()))
                self.assertEqual(one.store.made_order(), other.store.made_order())
                self.assertEqual(one.followed + one.looks, other.followed + other.looks)
            self.assertEqual((other.followed, links_of(other.store)), (0, ()))
            followed += one.followed
        self.assertGreater(followed, 50)


class Leaves(unittest.TestCase):
    def test_when_a_ride_is_left_and_why(self):
        rng = random.Random(172)
        for number in range(150):
            machine, pair, world = jumping_case(rng) if number % 3 == 0 else drawn_case(rng)
            fast = Fast(machine, pair, world, **drawn_ways(rng, machine, pair, worlds_of(machine, world, 60)))
            fast.run(60)
            for (begun, q, entry, many), (moment, own, place, done, causes) in zip(fast.enterings(), fast.lefts(), strict=True):
                self.assertEqual((q, entry, moment), (own, place, begun + done))
                if causes == ("end",):
                    self.assertEqual(done, many)
                elif causes in (("place",), ("fault",)):
                    self.assertLess(done, many)
                else:
                    self.assertTrue(causes)
                    self.assertLess(done, many)
                    ordered = [name for name in ("limit", "turn", "line", "rest", "thrown") if name in causes]
                    self.assertEqual(list(causes), ordered)

    def test_what_does_not_depend_on_the_store_or_the_house(self):
        rng = random.Random(173)
        for _ in range(60):
            machine = drawn_machine(rng, 4)
            world = drawn_start(rng, machine)
            longest = rng.randrange(1, 9)
            told = []
            for _ in range(5):
                pair = drawn_pair(rng, machine.book, longest=rng.randrange(longest, 9))
                ways = {"size": rng.randrange(1, 9), "picks": drawn_picks(rng), "links": rng.random() < 0.5,
                        "plan": [(rng.choice((1, 2)), longest)]}
                fast = Fast(machine, pair, world, **ways)
                end = fast.run(60)
                told.append((fast.enterings(), fast.lefts(), end))
                steps = end.moment - world.moment
                self.assertLessEqual(len(fast.enterings()), steps)
                self.assertLessEqual(fast.made, len(fast.enterings()))
            self.assertEqual([one == told[0] for one in told], [True] * 5)

    def test_how_many_deeds(self):
        rng = random.Random(1173)
        for _ in range(80):
            machine, pair, world = drawn_case(rng)
            plan = [(rng.choice((1, 2)), rng.randrange(1, pair.longest + 1))]
            fast = Fast(machine, pair, world, plan=plan, size=rng.randrange(1, 9), picks=drawn_picks(rng))
            names = [fast.deed(60)]
            while names[-1] != "none":
                names.append(fast.deed(60))
            steps = fast.world.moment - world.moment
            others = [name for name in names[:-1] if name not in ("make", "link")]
            self.assertLessEqual(len(others), steps * (pair.c + 3))

    def test_the_house_steps_of_a_run_of_templates(self):
        rng = random.Random(231)
        for number in range(120):
            machine, pair, world = jumping_case(rng) if number % 3 == 0 else drawn_case(rng)
            longest = rng.randrange(1, pair.longest + 1)
            fast = Fast(machine, pair, world, plan=[(1, longest)], size=rng.randrange(1, 9))
            total, roads, written = 0, [], 0
            name = ""
            while name != "none":
                if fast.waiting is None and fast.riding() is None:
                    self.assertEqual(fast.house_steps, total)
                name = fast.deed(70)
                if name == "enter":
                    roads.append(fast.store.road_at(fast.riding()[0]))
                if name == "make":
                    entry = fast.store.made_order()[-1]
                    written += base(pair, fast.store.road_at(entry), len(fast.store.road_at(entry)))
                if name == "house" and fast.riding() is None:
                    _, _, _, done, causes = fast.lefts()[-1]
                    road = roads[-1]
                    if causes == ("fault",):
                        total = fast.house_steps
                    elif causes == ("end",):
                        total += base(pair, road, len(road))
                    elif causes == ("place",):
                        total += base(pair, road, done) - 1
                    else:
                        total += base(pair, road, done)
                    self.assertEqual(fast.house_steps, total)
            self.assertEqual(fast.written, written)

    def test_a_form_price_is_reached(self):
        rng = random.Random(190)
        for _ in range(60):
            book = BOOKS[4] if rng.random() < 0.5 else let_by_book(rng, 4, 2)
            pair = drawn_pair(rng, book)
            machine = Machine(book)
            world = with_own(drawn_start(rng, machine), 0, regs=tuple(rng.randrange(1, 16) for _ in range(book.registers)))
            kind = kinds(machine, world, 1)
            fetched = straight(machine, world, world.processors[0].place, 1)
            if kind != ("done",) or book.form_named(fetched.instructions[0][0]).goto is not None:
                continue
            fast = Fast(machine, pair, world, plan=((1, 1),))
            fast.run(1)
            self.assertEqual(fast.house_steps, pair.cost(fetched.instructions[0][0]) + 1)
        for many in range(1, 9):
            book = Book(4, 1, [("inc", ("0001",), [("get", 0), ("num", 1), ("add", 0, 1), ("put", 0, 2)])])
            pair, machine = drawn_pair(rng, book, longest=8), Machine(book)
            fast = Fast(machine, pair, start(machine, (1,) * 16, (0,)), plan=((1, many),))
            fast.run(many)
            self.assertEqual(fast.house_steps, many * (pair.cost("inc") + 1))

    def test_trimmed_rows_cost_no_more(self):
        rng = random.Random(225)
        less = 0
        for _ in range(80):
            machine, pair, world = drawn_case(rng)
            longest = rng.randrange(1, pair.longest + 1)
            ways = {"size": rng.randrange(1, 9), "picks": drawn_picks(rng), "links": rng.random() < 0.5}
            one, other = [Fast(machine, pair, world, plan=[(how, longest)], **ways) for how in (1, 2)]
            told = []
            for fast in (one, other):
                bills = {}
                name = ""
                while name != "none":
                    name = fast.deed(60)
                    if fast.riding() is None and fast.waiting is None:
                        bills[fast.world.moment, len(fast.lefts()), fast.made] = (fast.house_steps, fast.written)
                told.append(bills)
            self.assertEqual((one.enterings(), one.lefts()), (other.enterings(), other.lefts()))
            self.assertEqual(set(told[0]), set(told[1]))
            for key, (steps, written) in told[0].items():
                self.assertLessEqual(told[1][key][0], steps)
                self.assertLessEqual(told[1][key][1], written)
                less += told[1][key][0] < steps
        self.assertGreater(less, 100)


class Small(unittest.TestCase):
    def setUp(self):
        self.machine = machine_of()
        self.pair = long_pair(random.Random(0), self.machine.book, 1, longest=4)
        self.world = start(self.machine, (), (0,))

    def fast(self, world=None, **more):
        return Fast(self.machine, self.pair, world or self.world, **more)

    def test_the_order_of_the_first_deeds(self):
        fast = self.fast(plan=[(1, 2)])
        self.assertEqual([fast.deed(9) for _ in range(10)],
                         ["make", "enter", "house", "house", "make", "link", "enter", "house", "house", "make"])
        self.assertEqual((fast.followed, fast.looks), (1, 1))

    def test_none_of_the_plan_makes_plain_steps(self):
        fast = self.fast(plan=[(0, 1), (1, 3), (0, 1)])
        names = [fast.deed(12) for _ in range(30)]
        self.assertEqual(names[:8], ["plain", "make", "enter", "house", "house", "house", "plain", "plain"])
        self.assertEqual(fast.deed(0), "none")

    def test_a_run_that_is_over(self):
        over = with_own(self.world, 0, status="stopped").changed(left=0)
        fast = self.fast(over)
        self.assertEqual((fast.deed(9), fast.run(99), fast.meaning(), bill(fast)), ("none", over, over, (0,) * 6))
        machine = machine_of(processors=2)
        world = with_own(start(machine, (), (0, 0)), 0, status="stopped")
        fast = Fast(machine, self.pair, world)
        for call in (fast.deed, fast.run):
            self.assertEqual(refusal(call, 3), ("BadWorld", "world"))
            self.assertEqual((fast.world, bill(fast), fast.deed(0)), (world, (0,) * 6, "none"))

    def test_a_moment_that_is_reached_in_a_ride(self):
        fast = self.fast(plan=[(1, 4)])
        self.assertEqual([fast.deed(9) for _ in range(3)], ["make", "enter", "house"])
        self.assertEqual(fast.riding(), (0, 1))
        self.assertEqual(fast.run(0).moment, 2)
        self.assertEqual(fast.lefts(), ((2, 0, 0, 2, ("limit",)),))

    def test_a_cause_that_waits(self):
        book = Book(4, 1, [NOP, ("no", ("0001",), [("get", 0), ("must", 0, 13)])])
        machine = Machine(book)
        pair = long_pair(random.Random(0), book, 1)
        world = start(machine, (0, 1), (0,), vectors=(9,))
        fast = Fast(machine, pair, world)
        names = []
        while fast.waiting is None:
            names.append(fast.deed(9))
        self.assertEqual((names[:2], fast.waiting, fast.world.moment, fast.riding()), (["make", "enter"], 13, 1, None))
        self.assertEqual(fast.meaning(), run(machine, world, 1))
        self.assertEqual((fast.lefts(), fast.road_steps), (((1, 0, 0, 1, ("fault",)),), 1))
        self.assertEqual(fast.deed(0), "take")
        self.assertEqual((fast.waiting, fast.world, fast.road_steps), (None, run(machine, world, 2), 2))
        fast = Fast(machine, pair, world)
        while fast.waiting is None:
            fast.deed(9)
        self.assertEqual(fast.run(0), run(machine, world, 2))

    def test_forced_rows(self):
        late = [("slot", 0), ("num", 0), ("num", 5), ("num", 9)]
        row = Row([("tick",), ("end",)], late, [(1, 0), (2, 0), (3, 2)])
        fast = self.fast(forced=[((1, 2), row), ((0, 1), row), ((0, 1), ROW)][:2])
        self.assertEqual([fast.deed(9) for _ in range(4)], ["make", "enter", "house", "house"])
        self.assertEqual((fast.world.processors[0].place, fast.world.processors[0].regs, fast.written), (9, (5,), 2))
        self.assertEqual(fast.lefts(), ((2, 0, 0, 2, ("end",)),))

    def test_own_copies(self):
        plan, offers, forced, picks = [[1, 2]], [[[0, 1], None]], [[[9], ROW]], [1]
        fast = self.fast(plan=plan, offers=offers, forced=forced, picks=picks)
        plan[0][0] = 0
        plan.clear()
        offers[0][0][0] = 7
        forced[0][0][0] = 0
        picks[0] = 0
        fast.run(20)
        self.assertEqual(fast.enterings(), self.other_run(plan=[(1, 2)], offers=[((0, 1), None)], forced=[((9,), ROW)], picks=(1,)))

    def other_run(self, **more):
        fast = self.fast(**more)
        fast.run(20)
        return fast.enterings()

    def test_attributes(self):
        fast = self.fast()
        self.assertIs(fast.machine, self.machine)
        self.assertIs(fast.pair, self.pair)
        self.assertIs(fast.world, self.world)
        self.assertIsInstance(fast.store, Store)
        self.assertEqual((fast.store.size, fast.store.picks, fast.store.linking), (4, "oldest", True))
        self.assertEqual((fast.waiting, fast.riding(), fast.enterings(), fast.lefts(), bill(fast)), (None, None, (), (), (0,) * 6))

    def test_refused(self):
        other = long_pair(random.Random(0), Book(4, 1, [("nap", ("0000",), ())]), 1)
        self.assertEqual(refusal(Fast, self.machine, other, None, size=0), ("BadPair",))
        for world in (None, start(machine_of(5), (), (0,)), self.world.changed(left=0)):
            self.assertEqual(refusal(Fast, self.machine, self.pair, world, size=0, picks=0), ("BadWorld", "world"))
        for size in (0, 9, *WRONG_NUMBERS):
            self.assertEqual(refusal(self.fast, size=size, picks=0, plan=()), ("BadNumber", "size"))
        self.assertEqual(refusal(self.fast, picks="none", plan=()), ("BadPlan", 0))
        for plan in ((), None, 3):
            self.assertEqual(refusal(self.fast, plan=plan, offers=0), ("BadPlan", -1))
        self.assertEqual(refusal(self.fast, plan=[(1, 4), (1, 5), (9, 9)], offers=0), ("BadPlan", 1))
        self.assertEqual(refusal(self.fast, offers=0, forced=0), ("BadPlan", -1))
        self.assertEqual(refusal(self.fast, offers=[((0,), None), ((0,), 3)], forced=0), ("BadPlan", 1))
        self.assertEqual(refusal(self.fast, forced=0), ("BadPlan", -1))
        hands = Row([("end",)], [("num", 0)], [(0,), (0, 0)])
        for wrong in (((0,), None), ((0, 1), ROW), ((0,), hands), ((), ROW), 0):
            self.assertEqual(refusal(self.fast, forced=[((0,), ROW), wrong]), ("BadPlan", 1))
        self.assertIsNone(refusal(self.fast, forced=[((0,), ROW), ((400,), ROW)]))

    def test_wrong_moments(self):
        fast = self.fast()
        for moment in (-1, *WRONG_NUMBERS):
            self.assertEqual(refusal(fast.deed, moment), ("BadNumber", "moment"))
            self.assertEqual(refusal(fast.run, moment), ("BadNumber", "moment"))
        self.assertEqual((fast.world, bill(fast)), (self.world, (0,) * 6))

    def test_a_code_that_is_written_and_then_done(self):
        # st writes the word of register 1 to the address in register 0; then comes a jump there.
        book = Book(4, 2, [("st", ("0001",), [("get", 0), ("get", 1), ("write", 0, 1)]), ("to", ("0010",), [("get", 0), ("goto", 0)]),
                           ("say", ("0011",), [("num", 7), ("out", 0, 0)]), ("out", ("0100",), [("num", 1), ("out", 6, 0)])])
        pair = long_pair(random.Random(0), book, 1)
        for depth, flushed in ((0, False), (1, False), (1, True), (3, True), (3, False)):
            machine = Machine(book, depth=depth)
            world = with_own(start(machine, (1, 4 if flushed else 1, 2), (0,)), 0, regs=(9, 3))
            done = depth == 0 or flushed
            for how in (0, 1, 2):
                fast = Fast(machine, pair, world, plan=[(how, 8)])
                worlds = worlds_of(machine, world, 5)
                at = 0
                while fast.deed(5) != "none":
                    self.assertIn(fast.meaning(), worlds[at:at + 2])
                    at = worlds.index(fast.meaning())
                self.assertEqual([entry[2] for entry in fast.world.shown], [7] if done else
                                 [7] if depth < 2 and not flushed else [], (depth, flushed))


if __name__ == "__main__":
    unittest.main()
