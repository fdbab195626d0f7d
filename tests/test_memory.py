"""What a processor sees, and writes that wait and settle ([66], [67], [69])."""

import random
import unittest

from helpers import WRONG_NUMBERS, refusal
from selfwritten.happenings import happen, start
from selfwritten.memory import drained, page_of, read_by, seen, settle_one, write_by
from worldly import apart, drawn_event, drawn_world, machine_of


class Pages(unittest.TestCase):
    def test_pages(self):
        for word in range(4, 9):
            machine = machine_of(word=word)
            many = 2 ** word // 8
            wanted = [page for page in range(8) for _ in range(many)]
            self.assertEqual([page_of(machine, x) for x in range(2 ** word)], wanted)

    def test_refused(self):
        for word in (4, 8):
            for x in (-1, 2 ** word, *WRONG_NUMBERS):
                self.assertEqual(refusal(page_of, machine_of(word=word), x), ("BadNumber", "x"))


class Seen(unittest.TestCase):
    def test_the_newest_waiting_write(self):
        machine = machine_of(depth=3, processors=2)
        world = start(machine, (1, 2, 3), (0, 0))
        for x, y in ((1, 9), (2, 8), (1, 7)):
            world = write_by(machine, world, 0, x, y)
        self.assertEqual([seen(machine, world, 0, x) for x in range(4)], [1, 7, 8, 0])
        self.assertEqual([seen(machine, world, 1, x) for x in range(4)], [1, 2, 3, 0])
        world = settle_one(world, 0)
        self.assertEqual([seen(machine, world, 0, x) for x in range(4)], [1, 7, 8, 0])
        self.assertEqual([seen(machine, world, 1, x) for x in range(4)], [1, 9, 3, 0])

    def test_a_waiting_0_is_seen(self):
        machine = machine_of(depth=1)
        world = write_by(machine, start(machine, (5,), (0,)), 0, 0, 0)
        self.assertEqual((world.cells[0], seen(machine, world, 0, 0)), (5, 0))

    def test_rights_do_not_matter(self):
        machine = machine_of()
        world = start(machine, (5,), (0,), rights=(0,) * 8)
        self.assertEqual(seen(machine, world, 0, 0), 5)

    def test_refused(self):
        machine = machine_of(processors=2)
        world = start(machine, (), (0, 0))
        for call in (seen, read_by):
            for q in (-1, 2, *WRONG_NUMBERS):
                self.assertEqual(refusal(call, machine, world, q, 99), ("BadNumber", "q"))
            for x in (-1, 16, *WRONG_NUMBERS):
                self.assertEqual(refusal(call, machine, world, 1, x), ("BadNumber", "x"))


class Reads(unittest.TestCase):
    def test_the_right_to_read(self):
        machine = machine_of(depth=1)
        for right in range(8):
            world = start(machine, list(range(16)), (0,), rights=(7, 7, right, 7, 7, 7, 7, 7))
            told = [read_by(machine, world, 0, x) for x in (3, 4, 5, 6)]
            self.assertEqual(told, [3, 4, 5, 6] if right >= 4 else [3, None, None, 6])

    def test_what_q_sees(self):
        machine = machine_of(depth=1, processors=2)
        world = write_by(machine, start(machine, (), (0, 0)), 1, 3, 8)
        self.assertEqual([read_by(machine, world, q, 3) for q in (0, 1)], [0, 8])

    def test_nothing_changes(self):
        machine = machine_of(depth=2)
        world = drawn_world(random.Random(1), machine)
        before = world.facts()
        for x in range(16):
            read_by(machine, world, 0, x)
            seen(machine, world, 0, x)
        self.assertEqual(world.facts(), before)


class Writes(unittest.TestCase):
    def test_depths(self):
        """Of five writes the last ones wait, as many as the depth; the others have settled."""
        writes = [(1, 9), (2, 8), (1, 7), (4, 6), (5, 5)]
        for depth in range(4):
            machine = machine_of(depth=depth, processors=2)
            world = start(machine, (), (0, 0))
            for many, (x, y) in enumerate(writes, 1):
                after = write_by(machine, world, 1, x, y)
                waiting = tuple(writes[max(0, many - depth):many])
                wanted = {("buffer", 1): waiting} if depth else {}
                if many > depth:
                    address, word = writes[many - depth - 1]
                    wanted[("cells", address)] = word
                self.assertEqual(apart(world, after), wanted)
                world = after

    def test_the_right_to_write(self):
        for depth in (0, 2):
            machine = machine_of(depth=depth)
            for right in range(8):
                world = start(machine, (), (0,), rights=(7, 7, 7, right, 7, 7, 7, 7))
                before = world.facts()
                told = [write_by(machine, world, 0, x, 9) is None for x in (5, 6, 7, 8)]
                self.assertEqual(told, [False, not right & 2, not right & 2, False])
                self.assertEqual(world.facts(), before)

    def test_a_write_settles_whatever_right_its_page_has_by_then(self):
        machine = machine_of(depth=1)
        world = write_by(machine, start(machine, (), (0,)), 0, 2, 9)
        world = happen(machine, world, ("rights", 1, 0))
        after = write_by(machine, world, 0, 8, 1)
        self.assertEqual(apart(world, after), {("cells", 2): 9, ("buffer", 0): ((8, 1),)})
        self.assertIsNone(write_by(machine, world, 0, 2, 1))

    def test_the_word_that_is_there(self):
        machine = machine_of(depth=1)
        world = start(machine, (5,), (0,))
        self.assertEqual(apart(world, write_by(machine, world, 0, 0, 5)), {("buffer", 0): ((0, 5),)})

    def test_refused(self):
        machine = machine_of(processors=2)
        world = start(machine, (), (0, 0), rights=(0,) * 8)
        for q in (-1, 2, *WRONG_NUMBERS):
            self.assertEqual(refusal(write_by, machine, world, q, 99, 99), ("BadNumber", "q"))
        for wrong in (-1, 16, *WRONG_NUMBERS):
            self.assertEqual(refusal(write_by, machine, world, 0, wrong, wrong), ("BadNumber", "x"))
            self.assertEqual(refusal(write_by, machine, world, 0, 1, wrong), ("BadNumber", "y"))


class Settling(unittest.TestCase):
    def setUp(self):
        self.machine = machine_of(depth=3, processors=3)
        world = start(self.machine, (), (0, 0, 0))
        for q, x, y in ((0, 1, 9), (2, 1, 5), (0, 1, 7), (0, 2, 6)):
            world = write_by(self.machine, world, q, x, y)
        self.world = world

    def test_the_oldest_one(self):
        one = settle_one(self.world, 0)
        self.assertEqual(apart(self.world, one), {("cells", 1): 9, ("buffer", 0): ((1, 7), (2, 6))})
        two = settle_one(one, 0)
        self.assertEqual(apart(one, two), {("cells", 1): 7, ("buffer", 0): ((2, 6),)})
        other = settle_one(two, 2)
        self.assertEqual(apart(two, other), {("cells", 1): 5, ("buffer", 2): ()})

    def test_none_waits(self):
        self.assertTrue(settle_one(self.world, 1) == self.world)
        self.assertTrue(drained(self.world, 1) == self.world)

    def test_all_the_oldest_first(self):
        after = drained(self.world, 0)
        self.assertEqual(apart(self.world, after), {("cells", 1): 7, ("cells", 2): 6, ("buffer", 0): ()})
        after = drained(after, 2)
        self.assertEqual((after.cells[1], after.processors[2].buffer), (5, ()))

    def test_rights_do_not_matter(self):
        world = self.world.changed(rights=(0,) * 8)
        self.assertEqual(drained(world, 0).cells[1:3], (7, 6))

    def test_changes_nothing(self):
        before = self.world.facts()
        settle_one(self.world, 0)
        drained(self.world, 0)
        self.assertEqual(self.world.facts(), before)

    def test_refused(self):
        for q in (-1, 3, *WRONG_NUMBERS):
            self.assertEqual(refusal(settle_one, self.world, q), ("BadNumber", "q"))
            self.assertEqual(refusal(drained, self.world, q), ("BadNumber", "q"))


class Rows(unittest.TestCase):
    """[69], for drawn rows of reads, writes, settlings and events."""

    def check_row(self, rng, machine):
        size, many = 2 ** machine.word, machine.processors
        world = drawn_world(rng, machine)
        cells, rights = list(world.cells), list(world.rights)
        buffers = [list(own.buffer) for own in world.processors]
        for _ in range(60):
            before = world.facts()
            kept = world
            q, x, y = rng.randrange(many), rng.choice((0, 1, rng.randrange(size))), rng.randrange(size)
            kind = rng.choice(("read", "write", "write", "write", "settle", "drained", "event"))
            if kind == "read":
                waiting = [word for address, word in buffers[q] if address == x]
                wanted = (waiting or [cells[x]])[-1] if rights[x * 8 // size] & 4 else None
                self.assertEqual(read_by(machine, world, q, x), wanted)
            elif kind == "write":
                after = write_by(machine, world, q, x, y)
                self.assertEqual(after is None, not rights[x * 8 // size] & 2)
                if after is not None:
                    buffers[q].append((x, y))
                    while len(buffers[q]) > machine.depth:
                        self.settle(cells, buffers[q])
                    world = after
            elif kind == "event":
                event = drawn_event(rng, machine.word, many)
                world = happen(machine, world, event)
                if event[0] == "cell":
                    cells[event[1]] = event[2]
                elif event[0] == "rights":
                    rights[event[1]] = event[2]
                elif event[0] == "drain":
                    self.settle(cells, buffers[event[1]])
            else:
                world = settle_one(world, q) if kind == "settle" else drained(world, q)
                self.settle(cells, buffers[q])
                while kind == "drained" and buffers[q]:
                    self.settle(cells, buffers[q])
            self.assertEqual((world.cells, world.rights), (tuple(cells), tuple(rights)))
            self.assertEqual([own.buffer for own in world.processors], [tuple(row) for row in buffers])
            self.assertLessEqual(max(len(row) for row in buffers), machine.depth)
            self.assertEqual(kept.facts(), before)

    def settle(self, cells, buffer):
        if buffer:
            address, word = buffer.pop(0)
            cells[address] = word

    def test_drawn_rows(self):
        rng = random.Random(69)
        for word in (4, 8):
            for depth in range(4):
                for processors in (1, 2, 3):
                    for _ in range(3):
                        self.check_row(rng, machine_of(word=word, depth=depth, processors=processors))


if __name__ == "__main__":
    unittest.main()
