"""Asks of processors ([67]), and what follows from them ([69])."""

import random
import unittest

from helpers import WRONG_NUMBERS, WRONG_ROWS, refusal
from selfwritten.happenings import happen, raised, start
from selfwritten.ports import asked
from worldly import apart, drawn_event, drawn_world, machine_of


class Asks(unittest.TestCase):
    def setUp(self):
        self.machine = machine_of(processors=3, depth=1)
        self.world = start(self.machine, list(range(16)), (4, 5, 6), vectors=(None, 9, None))

    def check(self, q, ask, answer, wanted, world=None, machine=None):
        """The world behind the ask, which is the world before but for what is wanted."""
        world, machine = world or self.world, machine or self.machine
        before = world.facts()
        told, after = asked(machine, world, q, ask)
        self.assertEqual((told, type(told)), (answer, type(answer)), ask)
        self.assertEqual(apart(world, after), wanted, ask)
        self.assertEqual(world.facts(), before)
        return after

    def own(self, q, **more):
        return self.world.with_processor(q, self.world.processors[q].changed(**more))

    def test_read(self):
        self.check(1, ("read", 15), 15, {})
        world = self.own(1, buffer=((15, 3),))
        self.check(1, ("read", 15), 3, {}, world)
        self.check(0, ("read", 15), 15, {}, world)
        for right in range(8):
            world = happen(self.machine, self.world, ("rights", 7, right))
            self.check(2, ("read", 14), 14 if right & 4 else None, {}, world)
            self.check(2, ("read", 13), 13, {}, world)

    def test_write(self):
        world = self.check(1, ("write", 15, 3), 0, {("buffer", 1): ((15, 3),)})
        world = self.check(1, ("write", 0, 9), 0, {("buffer", 1): ((0, 9),), ("cells", 15): 3}, world)
        self.check(2, ("write", 0, 8), 0, {("buffer", 2): ((0, 8),)}, world)
        for right in range(8):
            world = happen(self.machine, self.world, ("rights", 7, right))
            wanted = {("buffer", 0): ((14, 1),)} if right & 2 else {}
            self.check(0, ("write", 14, 1), 0 if right & 2 else None, wanted, world)

    def test_write_at_every_depth(self):
        for depth in range(4):
            machine = machine_of(depth=depth)
            world, buffer = start(machine, (), (0,)), ()
            for number in range(6):
                buffer += ((number, number + 3),)
                wanted = {("buffer", 0): buffer[-depth:] if depth else ()}
                if len(buffer) > depth:
                    x, v = buffer[-depth - 1]
                    wanted[("cells", x)] = v
                if depth == 0 or wanted[("buffer", 0)] == world.processors[0].buffer:
                    del wanted[("buffer", 0)]
                world = self.check(0, ("write", number, number + 3), 0, wanted, world, machine)

    def test_in_keys(self):
        self.check(1, ("in", 0), 0, {})
        world = happen(self.machine, happen(self.machine, self.world, ("key", 7)), ("key", 5))
        world = self.check(2, ("in", 0), 7, {"typed": (5,)}, world)
        world = self.check(0, ("in", 0), 5, {"typed": ()}, world)
        self.check(0, ("in", 0), 0, {}, world)
        self.assertEqual(world.processors[0].lines, (2,))

    def test_in_the_other_ports(self):
        for moment in (0, 15, 16, 35, 100000):
            self.check(1, ("in", 1), moment % 16, {}, self.world.changed(moment=moment))
        for q in range(3):
            self.check(q, ("in", 2), q, {})
            self.check(q, ("in", 3), 11, {("mode", q): 0}, self.own(q, saved=11, mode=1))
            self.check(q, ("in", 3), 11, {}, self.own(q, saved=11, mode=0))
            self.check(q, ("in", 4), 13, {}, self.own(q, cause=13, mode=1))
            self.check(q, ("in", 5), 14, {}, self.own(q, kept=14, mode=1))

    def test_out_of_the_processor_itself(self):
        for q in range(3):
            world = self.world.changed(moment=20)
            world = self.check(q, ("out", 0, 6), 0, {"shown": ((20, q, 6),)}, world)
            self.check(q, ("out", 0, 0), 0, {"shown": ((20, q, 6), (20, q, 0))}, world)
            world = self.check(q, ("out", 1, 15), 0, {("alarm", q): 35}, world)
            world = self.check(q, ("out", 1, 1), 0, {("alarm", q): 21}, world)
            self.check(q, ("out", 1, 0), 0, {("alarm", q): None}, world)
            self.check(q, ("out", 2, 12), 0, {("vector", q): 12}, world)
            self.check(q, ("out", 2, 0), 0, {("vector", q): 0}, world)
            self.check(q, ("out", 3, 15), 0, {("page", q): 7}, world)
            self.check(q, ("out", 3, 6), 0, {("page", q): 6}, world)
            self.check(q, ("out", 5, 13), 0, {("kept", q): 13}, world)
            self.check(q, ("out", 7, 0), 0, {("status", q): "resting"}, world)

    def test_out_rights(self):
        world = self.own(1, page=5)
        self.check(1, ("out", 4, 10), 0, {("rights", 5): 2}, world)
        self.check(1, ("out", 4, 0), 0, {("rights", 5): 0}, world)
        self.check(0, ("out", 4, 12), 0, {("rights", 0): 4}, world)
        self.check(0, ("out", 4, 11), 0, {("rights", 0): 3}, world)
        self.check(0, ("out", 4, 15), 0, {}, world)

    def test_out_settles(self):
        machine = machine_of(processors=3, depth=3)
        world = self.own(2, buffer=((1, 7), (0, 3), (1, 9)))
        settled = {("buffer", 2): (), ("cells", 1): 9, ("cells", 0): 3}
        self.check(2, ("out", 6, 5), 0, settled, world, machine)
        self.check(2, ("out", 8, 5), 0, {**settled, ("status", 2): "stopped"}, world, machine)
        self.check(1, ("out", 6, 5), 0, {}, world, machine)
        self.check(1, ("out", 8, 5), 0, {("status", 1): "stopped"}, world, machine)

    def test_out_signal(self):
        for x in range(16):
            self.check(1, ("out", 9, x), 0, {("lines", x % 3): (3,)})
        world = raised(raised(self.world, 2, 5), 2, 1)
        world = self.check(0, ("out", 9, 2), 0, {("lines", 2): (1, 3, 5)}, world)
        self.check(0, ("out", 9, 14), 0, {}, world)
        self.check(0, ("out", 9, 7), 0, {("lines", 0): (3,)}, start(machine_of(), (), (0,)), machine_of())

    def test_at_processors_of_any_status(self):
        for status in ("resting", "stopped", "fallen"):
            world = self.own(1, status=status)
            self.check(1, ("read", 3), 3, {}, world)
            self.check(1, ("write", 3, 1), 0, {("buffer", 1): ((3, 1),)}, world)
            self.check(1, ("out", 5, 1), 0, {("kept", 1): 1}, world)


class Refusals(unittest.TestCase):
    def setUp(self):
        self.machine = machine_of(processors=2)
        self.world = start(self.machine, (), (0, 0))

    def test_asks(self):
        wrong = [*WRONG_ROWS, (), ["read", 3], ["in", 0], ("tick",), ("read",), ("read", 16), ("read", -1), ("read", True),
                 ("read", None), ("read", 1, 1), ("write", 1), ("write", 16, 0), ("write", 0, 16), ("write", 0, False),
                 ("write", 0, 0, 0), ("in", 6), ("in", -1), ("in", True), ("in",), ("in", 0, 0), ("out", 10, 0),
                 ("out", -1, 0), ("out", 0), ("out", 0, 16), ("out", False, 0), ("out", 0, 0, 0), ("Read", 0), (0, 0),
                 (None,), (("read",), 0), "in", ("put", 0, 0), ("must", 0)]
        before = self.world.facts()
        for ask in wrong:
            self.assertEqual(refusal(asked, self.machine, self.world, 0, ask), ("BadWorld", "ask"), ask)
        self.assertEqual(self.world.facts(), before)
        for ask in (("in", 5), ("out", 9, 15), ("read", 15), ("write", 15, 15)):
            self.assertEqual(len(asked(self.machine, self.world, 1, ask)), 2)

    def test_the_first_wrong_one_is_told(self):
        other = machine_of(processors=1)
        self.assertEqual(refusal(asked, other, self.world, 7, None), ("BadWorld", "world"))
        self.assertEqual(refusal(asked, self.machine, None, 0, ("in", 0)), ("BadWorld", "world"))
        for q in (2, -1, *WRONG_NUMBERS):
            self.assertEqual(refusal(asked, self.machine, self.world, q, None), ("BadNumber", "q"))


class What_follows(unittest.TestCase):
    def drawn_ask(self, rng, size):
        return rng.choice((
            ("read", rng.randrange(size)), ("write", rng.randrange(size), rng.randrange(size)),
            ("write", rng.randrange(size), rng.randrange(size)), ("in", rng.randrange(6)),
            ("out", rng.randrange(10), rng.randrange(size)),
        ))

    def test_writes_are_kept_in_their_order(self):
        rng = random.Random(69)
        for number in range(120):
            machine = machine_of(word=(4, 8)[number % 2], processors=1 + number % 3, depth=number % 4)
            size = 2 ** machine.word
            world = drawn_world(rng, machine)
            cells = list(world.cells)
            written = [list(own.buffer) for own in world.processors]
            settled = [0] * machine.processors
            for _ in range(40):
                before, q = world, rng.randrange(machine.processors)
                if rng.random() < 0.7:
                    ask = self.drawn_ask(rng, size)
                    answer, world = asked(machine, world, q, ask)
                    rights = before.rights[ask[1] * 8 // size] if ask[0] in ("read", "write") else 7
                    right = {"read": 4, "write": 2}.get(ask[0], 7)
                    self.assertEqual(answer is None, not rights & right)
                    if ask[0] == "write" and answer is not None:
                        written[q].append(ask[1:])
                    if world.rights != before.rights:
                        self.assertEqual(ask[:2], ("out", 4))
                else:
                    event = drawn_event(rng, machine.word, machine.processors)
                    world = happen(machine, world, event)
                    if event[0] == "cell":
                        cells[event[1]] = event[2]
                    if world.rights != before.rights:
                        self.assertEqual(event[0], "rights")
                for p, own in enumerate(world.processors):
                    self.assertLessEqual(len(own.buffer), machine.depth)
                    gone = len(written[p]) - len(own.buffer)
                    for x, v in written[p][settled[p]:gone]:
                        cells[x] = v
                    self.assertEqual(tuple(written[p][gone:]), own.buffer)
                    settled[p] = gone
                self.assertEqual(world.cells, tuple(cells))


if __name__ == "__main__":
    unittest.main()
