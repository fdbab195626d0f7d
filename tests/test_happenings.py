"""Signals, events, and first worlds ([68])."""

import random
import unittest

from helpers import WRONG_NUMBERS, WRONG_ROWS, refusal
from selfwritten.happenings import happen, raised, start
from selfwritten.memory import write_by
from worldly import apart, drawn_event, drawn_world, machine_of


class Signals(unittest.TestCase):
    def setUp(self):
        self.world = start(machine_of(processors=3), (), (0, 0, 0))

    def test_in_ascending_order_and_once(self):
        world = self.world
        for line, waiting in ((5, (5,)), (2, (2, 5)), (7, (2, 5, 7)), (5, (2, 5, 7)), (1, (1, 2, 5, 7))):
            after = raised(world, 1, line)
            self.assertEqual(after.processors[1].lines, waiting)
            self.assertEqual(apart(world, after), {("lines", 1): waiting} if line not in world.processors[1].lines
                             else {})
            world = after
        self.assertEqual([own.lines for own in world.processors], [(), (1, 2, 5, 7), ()])

    def test_at_processors_that_have_ended(self):
        for status in ("resting", "stopped", "fallen"):
            world = self.world.with_processor(2, self.world.processors[2].changed(status=status))
            self.assertEqual(apart(world, raised(world, 2, 3)), {("lines", 2): (3,)})

    def test_refused(self):
        for q in (-1, 3, *WRONG_NUMBERS):
            self.assertEqual(refusal(raised, self.world, q, 9), ("BadNumber", "q"))
        for line in (0, 8, -1, *WRONG_NUMBERS):
            self.assertEqual(refusal(raised, self.world, 0, line), ("BadNumber", "line"))
        self.assertEqual([raised(self.world, 2, line).processors[2].lines for line in (1, 7)], [(1,), (7,)])


class Events(unittest.TestCase):
    def setUp(self):
        self.machine = machine_of(processors=2, depth=2)
        world = start(self.machine, (1, 2, 3), (4, 5), vectors=(6, 7))
        world = write_by(self.machine, world, 1, 8, 9)
        self.world = write_by(self.machine, world, 1, 0, 7)

    def check(self, event, wanted, world=None):
        world = world or self.world
        before = world.facts()
        for told in (event, list(event)):
            self.assertEqual(apart(world, happen(self.machine, world, told)), wanted, event)
        self.assertEqual(world.facts(), before)
        return happen(self.machine, world, event)

    def test_key(self):
        world = self.check(("key", 0), {"typed": (0,), ("lines", 0): (2,)})
        world = self.check(("key", 15), {"typed": (0, 15)}, world)
        world = self.check(("line", 0, 1), {("lines", 0): (1, 2)}, world)
        self.check(("key", 3), {"typed": (0, 15, 3)}, world)

    def test_line(self):
        world = self.check(("line", 1, 7), {("lines", 1): (7,)})
        world = self.check(("line", 1, 1), {("lines", 1): (1, 7)}, world)
        self.check(("line", 1, 7), {}, world)
        self.check(("line", 0, 4), {("lines", 0): (4,)}, world)

    def test_cell(self):
        self.check(("cell", 15, 3), {("cells", 15): 3})
        self.check(("cell", 0, 1), {})
        # What waits at a processor still waits, and is not changed.
        self.check(("cell", 8, 4), {("cells", 8): 4})

    def test_rights(self):
        self.check(("rights", 0, 0), {("rights", 0): 0})
        self.check(("rights", 7, 5), {("rights", 7): 5})
        self.check(("rights", 3, 7), {})

    def test_drain(self):
        world = self.check(("drain", 1), {("cells", 8): 9, ("buffer", 1): ((0, 7),)})
        world = self.check(("drain", 1), {("cells", 0): 7, ("buffer", 1): ()}, world)
        self.check(("drain", 1), {}, world)
        self.check(("drain", 0), {})

    def test_at_processors_that_have_ended(self):
        for status in ("resting", "stopped", "fallen"):
            world = self.world
            for q in (0, 1):
                world = world.with_processor(q, world.processors[q].changed(status=status))
            self.check(("key", 1), {"typed": (1,), ("lines", 0): (2,)}, world)
            self.check(("line", 1, 3), {("lines", 1): (3,)}, world)
            self.check(("drain", 1), {("cells", 8): 9, ("buffer", 1): ((0, 7),)}, world)

    def test_refused(self):
        wrong = [*WRONG_ROWS, (), ("key",), ("key", 16), ("key", -1), ("key", True), ("key", 1, 1), (0, "key", 1),
                 ("line", 2, 1), ("line", 0, 0), ("line", 0, 8), ("line", 0), ("cell", 16, 0), ("cell", 0, 16),
                 ("cell", 0), ("rights", 8, 0), ("rights", 0, 8), ("rights", -1, 0), ("drain", 2), ("drain", None),
                 ("drain",), ("drain", False), ("Key", 1), (None, 1), (["key"], 1), ({}, 1), "key", ("line", 1.0, 1)]
        before = self.world.facts()
        for event in wrong:
            self.assertEqual(refusal(happen, self.machine, self.world, event), ("BadMachine", "events"), event)
        self.assertEqual(self.world.facts(), before)

    def test_the_world_first(self):
        other = machine_of(processors=1)
        self.assertEqual(refusal(happen, other, self.world, None), ("BadWorld", "world"))

    def test_nothing_else_changes(self):
        rng = random.Random(68)
        kinds = {"key": {"typed", "lines"}, "line": {"lines"}, "cell": {"cells"}, "rights": {"rights"},
                 "drain": {"cells", "buffer"}}
        for number in range(200):
            machine = machine_of(word=(4, 8)[number % 2], processors=1 + number % 3, depth=number % 4)
            world = drawn_world(rng, machine)
            before = world.facts()
            event = drawn_event(rng, machine.word, machine.processors)
            changed = apart(world, happen(machine, world, event))
            names = {name if isinstance(name, str) else name[0] for name in changed}
            self.assertLessEqual(names, kinds[event[0]])
            self.assertEqual(world.facts(), before)


class Start(unittest.TestCase):
    def test_a_first_world(self):
        machine = machine_of(word=4, registers=3, processors=2, turns=[(1, 7), (0, 2)], depth=3)
        world = start(machine, (3, 15), (9, 0), rights=(0, 1, 2, 3, 4, 5, 6, 7), vectors=(None, 15))
        own = (9, (0, 0, 0), (), (), None, None, 0, 0, 0, 0, 0, "on")
        other = (0, (0, 0, 0), (), (), None, 15, 0, 0, 0, 0, 0, "on")
        wanted = (0, (3, 15) + (0,) * 14, (0, 1, 2, 3, 4, 5, 6, 7), 0, 7, (), (), (), (own, other))
        self.assertEqual(world.facts(), wanted)

    def test_what_is_given_if_nothing_is_told(self):
        for processors in (1, 2, 3):
            world = start(machine_of(processors=processors), (), (1,) * processors)
            self.assertEqual((world.rights, world.left), ((7,) * 8, 1))
            self.assertEqual([own.vector for own in world.processors], [None] * processors)

    def test_images_of_0_and_all_cells(self):
        for word in (4, 8):
            machine, size = machine_of(word=word), 2 ** word
            self.assertEqual(start(machine, [], [0]).cells, (0,) * size)
            full = [size - 1 - x for x in range(size)]
            self.assertEqual(start(machine, full, [0]).cells, tuple(full))
            self.assertEqual(start(machine, full[:-1], [0]).cells, tuple(full[:-1]) + (0,))
            self.assertEqual(refusal(start, machine, full + [0], [0]), ("BadWords", -1))
            self.assertEqual(refusal(start, machine, [size] * (size + 1), [0]), ("BadWords", -1))

    def test_more_vectors_than_processors(self):
        world = start(machine_of(), (), (0,), vectors=[5, None, 15, 2, None])
        self.assertEqual([own.vector for own in world.processors], [5])

    def test_own_copies(self):
        image, places, rights, vectors = [1], [2], [7] * 8, [3]
        world = start(machine_of(), image, places, rights=rights, vectors=vectors)
        before = world.facts()
        self.assertEqual((image, places, rights, vectors), ([1], [2], [7] * 8, [3]))
        for row in (image, places, rights, vectors):
            row[0] = 0
            row.append(1)
        self.assertEqual(world.facts(), before)

    def test_kinds(self):
        world = start(machine_of(), [1], [2], rights=[7] * 8, vectors=[3])
        facts = (world.cells, world.rights, world.typed, world.shown, world.noted, world.processors,
                 world.processors[0].regs, world.processors[0].buffer, world.processors[0].lines)
        self.assertEqual([type(fact) for fact in facts], [tuple] * 9)

    def test_events_of_moment_0(self):
        events = [(0, "cell", 3, 1), (1, "cell", 4, 1), (0, "key", 9), (0, "cell", 3, 2), (0, "rights", 2, 5),
                  (0, "line", 1, 1), (2, "key", 1), (0, "key", 4), (0, "drain", 0)]
        machine = machine_of(processors=2, events=events)
        plain = start(machine_of(processors=2), (7,) * 5, (0, 0))
        wanted = {("cells", 3): 2, "typed": (9, 4), ("lines", 0): (2,), ("rights", 2): 5, ("lines", 1): (1,)}
        self.assertEqual(apart(plain, start(machine, (7,) * 5, (0, 0))), wanted)

    def test_image(self):
        machine = machine_of()
        for image in WRONG_ROWS:
            told = refusal(start, machine, image, None, rights=None, vectors=None)
            self.assertEqual(told, ("BadWords", -1), image)
        for word in (-1, 16, *WRONG_NUMBERS):
            told = refusal(start, machine, (15, 0, word, word), None, rights=None, vectors=None)
            self.assertEqual(told, ("BadWords", 2), word)

    def test_places(self):
        machine = machine_of(processors=2)
        for places in (*WRONG_ROWS, (), (1,), (1, 2, 3)):
            told = refusal(start, machine, (), places, rights=None, vectors=None)
            self.assertEqual(told, ("BadWords", -1), places)
        for place in (-1, 16, *WRONG_NUMBERS):
            self.assertEqual(refusal(start, machine, (), (15, place), rights=None), ("BadWords", 1), place)
            self.assertEqual(refusal(start, machine, (), [place, place], rights=None), ("BadWords", 0), place)

    def test_rights(self):
        machine = machine_of()
        for rights in (*WRONG_ROWS, (), (7,) * 7, (7,) * 9):
            told = refusal(start, machine, (), (0,), rights=rights, vectors=None)
            self.assertEqual(told, ("BadWorld", "rights"), rights)
        for right in (-1, 8, *WRONG_NUMBERS):
            told = refusal(start, machine, (), (0,), rights=[0] * 7 + [right], vectors=None)
            self.assertEqual(told, ("BadWorld", "rights"), right)

    def test_vectors(self):
        machine = machine_of(processors=2)
        for vectors in (*WRONG_ROWS, (), (1,), (None,)):
            self.assertEqual(refusal(start, machine, (), (0, 0), vectors=vectors), ("BadWorld", "vectors"), vectors)
        for vector in (-1, 16, *[wrong for wrong in WRONG_NUMBERS if wrong is not None]):
            for vectors in ((0, vector), [vector, None], (None, None, vector)):
                told = refusal(start, machine, (), (0, 0), vectors=vectors)
                self.assertEqual(told, ("BadWorld", "vectors"), vectors)


if __name__ == "__main__":
    unittest.main()
