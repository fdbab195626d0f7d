"""Roads in a world ([115] to [117])."""

import random
import unittest

from helpers import WRONG_NUMBERS, refusal
from plain import BOOKS, drawn_machine, drawn_start
from rowing import road_run
from selfwritten.closing import can_take
from selfwritten.happenings import happen, raised, start
from selfwritten.machines import Machine
from selfwritten.memory import write_by
from selfwritten.ports import asked
from selfwritten.roads import along, holds, is_fresh, road_of, straight
from selfwritten.roadsteps import drive, stops
from selfwritten.runs import run, trail
from selfwritten.steps import step
from selfwritten.worlds import is_over, turn_of
from worldly import machine_of

BOOK = BOOKS[4]
STATUSES = ("on", "resting", "stopped", "fallen")


def with_own(world, q, **more):
    return world.with_processor(q, world.processors[q].changed(**more))


class Stops(unittest.TestCase):
    def test_each_reason(self):
        machine = machine_of(processors=2)
        world = start(machine, (), (0, 0), vectors=(5, None)).changed(moment=7)
        for q in (0, 1):
            for moment in (0, 6, 7, 8):
                for status in STATUSES:
                    for line in (False, True):
                        for thrown in (False, True):
                            own = with_own(world, q, status=status)
                            own = raised(own, q, 4) if line else own
                            wanted = []
                            wanted += ["limit"] if moment <= 7 else []
                            wanted += ["turn"] if q == 1 else []
                            wanted += ["line"] if q == 0 and line and status in ("on", "resting") else []
                            wanted += ["rest"] if status != "on" else []
                            wanted += ["thrown"] if thrown else []
                            self.assertEqual(stops(machine, own, q, moment, thrown), tuple(wanted))

    def test_all_have_ended(self):
        machine = machine_of()
        world = with_own(start(machine, (), (0,)), 0, status="stopped").changed(left=0)
        self.assertEqual(stops(machine, world, 0, 9, False), ("turn", "rest"))

    def test_refused(self):
        machine = machine_of(processors=2)
        world = start(machine, (), (0, 0))
        for moment in (-1, *WRONG_NUMBERS):
            self.assertEqual(refusal(stops, machine, world, 0, moment, False), ("BadNumber", "moment"))
        for q in (-1, 2, *WRONG_NUMBERS):
            self.assertEqual(refusal(stops, machine, world, q, -1, False), ("BadNumber", "q"))
        self.assertEqual(refusal(stops, machine_of(), world, -1, -1, False), ("BadWorld", "world"))


class Enter(unittest.TestCase):
    def test_who_may_not(self):
        machine = Machine(BOOK, processors=2, turns=[(0, 9), (1, 9)])
        world = start(machine, (1, 1, 1), (0, 1), vectors=(9, None))
        road = straight(machine, world, 0, 3)
        self.assertEqual(drive(machine, world, road, 3)[:2], (3, None))
        wrong = [(with_own(world, 0, status=status), road, 3) for status in STATUSES[1:]]
        wrong += [(with_own(world, 0, place=1), road, 3), (raised(world, 0, 2), road, 3), (world, road, 0),
                  (world.changed(turn=1), road, 3), (world.changed(moment=3), road, 3),
                  (happen(machine, world, ("cell", 2, 0)), road, 3), (happen(machine, world, ("rights", 1, 6)), road, 3),
                  (world, road_of(BOOK, list(road)), 3), (world, straight(machine, world, 1, 2), 3)]
        both = with_own(with_own(world, 0, status="fallen"), 1, status="fallen")
        wrong.append((both.changed(left=0), road, 3))
        for own, told, moment in wrong:
            before = own.facts()
            self.assertEqual(refusal(drive, machine, own, told, moment), ("BadWorld", "road"))
            self.assertEqual(own.facts(), before)
        # A signal that it cannot take does not hinder it.
        self.assertEqual(drive(machine, with_own(raised(world, 0, 2), 0, mode=1), road, 3)[:2], (3, None))

    def test_the_order_of_the_checks(self):
        machine = Machine(BOOK)
        world = start(machine, (1,), (0,))
        road = road_of(BOOK, [(0, ("incr", ()))])
        for moment in (-1, *WRONG_NUMBERS):
            self.assertEqual(refusal(drive, machine, world, road, moment), ("BadNumber", "moment"))
            self.assertEqual(refusal(drive, machine, None, road, moment), ("BadWorld", "world"))
        self.assertEqual(refusal(drive, machine, world, road, 9), ("BadWorld", "road"))


class Drive(unittest.TestCase):
    """Each reason by itself; an image of eight incr, and what comes in between."""

    def driven(self, image, moment=99, *, events=(), depth=0, vector=None, longest=8, turns=((0, 1000),), **more):
        machine = Machine(BOOK, depth=depth, events=events, turns=turns)
        world = with_own(start(machine, image, (0,), vectors=(vector,)), 0, **more)
        road = straight(machine, world, 0, longest)
        done, cause, after = drive(machine, world, road, moment)
        self.assertEqual(after, run(machine, world, done + (cause is not None)))
        return done, cause, stops(machine, after, 0, moment, not holds(after, road)), after

    def test_to_the_end(self):
        for longest in range(1, 9):
            self.assertEqual(self.driven((1,) * 9, longest=longest)[:3], (longest, None, ()))

    def test_the_limit(self):
        for moment in range(1, 8):
            self.assertEqual(self.driven((1,) * 9, moment)[:3], (moment, None, ("limit",)))
        # Behind the last instruction there is no tick.
        self.assertEqual(self.driven((1,) * 9, 8)[:3], (8, None, ("limit",)))

    def test_the_turn(self):
        machine = Machine(BOOK, processors=2, turns=[(0, 3), (1, 1)])
        world = start(machine, (1,) * 9, (0, 0))
        done, cause, after = drive(machine, world, straight(machine, world, 0, 8), 99)
        self.assertEqual((done, cause, stops(machine, after, 0, 99, False)), (3, None, ("turn",)))
        # The turn comes to the same processor again.
        self.assertEqual(self.driven((1,) * 9, turns=((0, 2), (0, 1)))[0], 8)

    def test_a_signal(self):
        events = [(3, "line", 0, 5)]
        self.assertEqual(self.driven((1,) * 9, events=events, vector=12)[:3], (3, None, ("line",)))
        self.assertEqual(self.driven((1,) * 9, events=events)[:3], (8, None, ()))
        self.assertEqual(self.driven((1,) * 9, events=events, vector=12, mode=1)[0], 8)
        # An alarm; mode becomes 0; the vector becomes a word.
        self.assertEqual(self.driven((1, 9, 1, 1, 1, 1), vector=12)[:3], (2, None, ("line",)))
        self.assertEqual(self.driven((1, 9, 1, 1, 1, 1), vector=12, regs=(1, 0))[:3], (3, None, ("line",)))
        self.assertEqual(self.driven((1, 8, 3, 1, 1), vector=12, mode=1, lines=(2,))[:3], (2, None, ("line",)))
        self.assertEqual(self.driven((1, 9, 2, 1, 1), lines=(2,))[:3], (2, None, ("line",)))

    def test_rest(self):
        self.assertEqual(self.driven((1, 9, 7, 1, 1))[:3], (2, None, ("rest",)))
        self.assertEqual(self.driven((1, 9, 8, 1, 1))[:3], (2, None, ("turn", "rest")))

    def test_thrown(self):
        # A cell event, a rights event, an own write, an own right.
        self.assertEqual(self.driven((1,) * 9, events=[(3, "cell", 6, 0)])[:3], (3, None, ("thrown",)))
        self.assertEqual(self.driven((1,) * 9, events=[(3, "rights", 3, 6)])[:3], (3, None, ("thrown",)))
        self.assertEqual(self.driven((1,) * 9, events=[(3, "cell", 8, 0)])[0], 8)
        self.assertEqual(self.driven((1,) * 9, events=[(3, "cell", 6, 1)])[0], 8)
        self.assertEqual(self.driven((1, 6, 1, 1), regs=(8, 5))[:3], (8, None, ()))
        self.assertEqual(self.driven((1, 6, 1, 1), regs=(2, 5))[:3], (2, None, ("thrown",)))
        self.assertEqual(self.driven((1, 6, 1, 1), regs=(2, 5), depth=1)[0], 8)
        self.assertEqual(self.driven((1, 6, 1, 6, 1), regs=(2, 5), depth=1)[:3], (4, None, ("thrown",)))
        self.assertEqual(self.driven((1, 9, 4, 1, 1), regs=(5, 0))[:3], (2, None, ("thrown",)))
        self.assertEqual(self.driven((1, 9, 4, 1, 1), regs=(4, 0))[0], 8)

    def test_thrown_by_an_ask_and_whole_again_behind_the_closing(self):
        # The write changes a look, and the event of the closing changes it back.
        done, cause, reasons, after = self.driven((6, 1, 1, 1), events=[(1, "cell", 2, 1)], regs=(2, 9))
        self.assertEqual((done, cause, reasons), (1, None, ()))

    def test_off_the_road(self):
        machine = Machine(BOOK)
        world = with_own(start(machine, (11, 9, 1, 1), (0,)), 0, regs=(3, 3))
        road = along(machine, world, (0, 2, 3))
        self.assertEqual(drive(machine, world, road, 99)[:2], (1, None))
        self.assertEqual(drive(machine, with_own(world, 0, regs=(3, 4)), road, 99)[:2], (3, None))

    def test_a_fault(self):
        done, cause, _, after = self.driven((1, 12, 1), regs=(3, 0), vector=9)
        self.assertEqual((done, cause, after.moment, after.processors[0].place), (1, 13, 2, 9))
        done, cause, _, after = self.driven((12, 1), regs=(3, 0))
        self.assertEqual((done, cause, after.moment, after.processors[0].status), (0, 13, 1, "fallen"))
        machine = Machine(BOOK, events=[(0, "rights", 7, 1)])
        world = with_own(start(machine, (5, 6), (0,)), 0, regs=(15, 0))
        road = straight(machine, world, 0, 1)
        self.assertEqual(drive(machine, world, road, 9)[:2], (0, 10))
        world = with_own(start(machine, (6, 5), (0,)), 0, regs=(15, 0))
        self.assertEqual(drive(machine, world, straight(machine, world, 0, 1), 9)[:2], (0, 11))


class Drawn(unittest.TestCase):
    def test_against_the_plain_machine(self):
        rng = random.Random(116)
        causes, dones, reasons = set(), set(), set()
        for number in range(500):
            machine = drawn_machine(rng, (4, 4, 8)[number % 3])
            world = run(machine, drawn_start(rng, machine), rng.randrange(8))
            if is_over(world):
                continue
            q, limit = turn_of(machine, world), world.moment + rng.randrange(12)
            place = world.processors[q].place
            road = straight(machine, world, place, rng.randrange(1, 9))
            if road is not None and rng.random() < 0.5:
                places = list(road.places)
                after = trail(machine, world, world.moment + 8)
                places = [one.processors[q].place for one in after][:rng.randrange(1, 9)]
                if rng.random() < 0.5:
                    places = [*straight(machine, world, place, 7).places, rng.randrange(2 ** machine.word)]
                road = along(machine, world, places)
            if road is None:
                continue
            may = (world.processors[q].status == "on" and not can_take(world, q) and world.moment < limit)
            if not may:
                self.assertEqual(refusal(drive, machine, world, road, limit), ("BadWorld", "road"))
                continue
            done, cause, after = drive(machine, world, road, limit)
            self.check(machine, world, road, q, limit, done, cause, after, reasons)
            causes.add(cause)
            dones.add(done)
        self.assertGreaterEqual(causes, {None, 13})
        self.assertGreaterEqual(dones, set(range(0, 7)))
        self.assertGreaterEqual(reasons, {"limit", "turn", "line", "rest", "thrown", "off", "end"})

    def check(self, machine, world, road, q, limit, done, cause, after, reasons):
        """Step by step: the world behind, and why it did not go on."""
        worlds = [world]
        kinds = []
        for _ in range(done + (cause is not None)):
            kind, one = step(machine, worlds[-1])
            kinds.append(kind)
            worlds.append(one)
        self.assertEqual(after, worlds[-1])
        self.assertEqual(kinds[:done], ["done"] * done)
        if cause is not None:
            self.assertIn(kinds[-1], ("fault", "fall"))
            self.assertEqual(after.noted[-1][1:3], (q, cause))
            return
        whole = True
        for at in range(1, done + 1):
            own, place = worlds[at], road.places[at - 1]
            whole = whole and holds(own, road)
            why = set(stops(machine, own, q, limit, not whole))
            off = at < len(road) and own.processors[q].place != road.places[at]
            if at < done:
                # No reason held; the next step fetches the road's next instruction.
                self.assertEqual((why, off), (set(), False), place)
            elif at < len(road):
                changed = self.changed_within(machine, worlds[at - 1], road)
                self.assertTrue(why or off or changed)
                reasons.update(why, ["off"] if off else [])
            else:
                reasons.add("end")

    def changed_within(self, machine, world, road):
        """Whether the road does not hold behind an ask of this step, though it may hold behind the closing."""
        q = turn_of(machine, world)
        own = world.processors[q]
        at = road.places.index(own.place)
        answers, asks = [], []
        while True:
            asks = road_run(machine.book, [list(road)[at]], own.regs, answers)[0][0]
            if len(asks) == len(answers):
                return False
            answer, world = asked(machine, world, q, asks[-1])
            if not holds(world, road):
                return True
            answers.append(answer)

    def test_roads_along_a_run(self):
        rng = random.Random(117)
        long, between = 0, 0
        for _ in range(200):
            machine = drawn_machine(rng, 4, book=BOOK)
            world = drawn_start(rng, machine)
            q = rng.randrange(machine.processors)
            worlds = [world]
            places, answers, spots = [], [], []
            own_regs = world.processors[q].regs
            while len(places) < 8 and worlds[-1].moment < 60 and not is_over(worlds[-1]):
                now = worlds[-1]
                kind, after = step(machine, now)
                if turn_of(machine, now) == q:
                    if kind != "done":
                        break
                    places.append(now.processors[q].place)
                    spots.append(len(worlds) - 1)
                else:
                    between += 1
                worlds.append(after)
            road = along(machine, world, places) if places else None
            if road is None:
                continue
            many = 0
            while many < len(places) and all(holds(one, road) for one in worlds[:spots[many] + 1]):
                many += 1
            self.assertGreaterEqual(len(road), many)
            long += many > 3
            # Against the answers that the asks got, each tick answered yes, it is never off.
            answers = []
            for i in range(many):
                now = worlds[spots[i]]
                more = self.answers_of(machine, now, q, road, i)
                answers += ([0] if i else []) + more
            if many:
                (_, handed), through = road_run(BOOK, list(road)[:many], own_regs, answers)
                self.assertEqual(handed[:2], (None, many))
                self.assertEqual([place for place, _ in through[:-1]], places[:many])
                last = worlds[spots[many - 1] + 1].processors[q]
                self.assertEqual(handed[2:], (last.place, last.regs))
        self.assertGreater(long, 10)
        self.assertGreater(between, 50)

    def answers_of(self, machine, world, q, road, i):
        answers = []
        while True:
            own = world.processors[q]
            asks = road_run(machine.book, [list(road)[i]], own.regs, answers)[0][0]
            if len(asks) == len(answers):
                return answers
            answer, world = asked(machine, world, q, asks[-1])
            answers.append(answer)


class Waiting(unittest.TestCase):
    def test_a_write_that_waits_does_not_throw(self):
        machine = Machine(BOOK, depth=2, turns=[(0, 1000)])
        world = write_by(machine, start(machine, (1,) * 9, (0,)), 0, 4, 0)
        road = straight(machine, world, 0, 8)
        self.assertTrue(is_fresh(machine, world, road))
        self.assertEqual(drive(machine, world, road, 50)[0], 8)


if __name__ == "__main__":
    unittest.main()
