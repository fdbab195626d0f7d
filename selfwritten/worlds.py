"""Worlds: what a machine has at one moment."""

from selfwritten.errors import BadWorld
from selfwritten.widths import check_int, check_words

ENDED = ("stopped", "fallen")


class Processor:
    """What a processor has at one moment; it never changes."""

    def __init__(self, *, place, regs, buffer, lines, alarm, vector, mode, saved, cause, kept, page, status):
        self.place = place
        self.regs = regs
        self.buffer = buffer
        self.lines = lines
        self.alarm = alarm
        self.vector = vector
        self.mode = mode
        self.saved = saved
        self.cause = cause
        self.kept = kept
        self.page = page
        self.status = status

    def facts(self):
        """The twelve attributes."""
        heads = (self.place, self.regs, self.buffer, self.lines, self.alarm, self.vector)
        return heads + (self.mode, self.saved, self.cause, self.kept, self.page, self.status)

    def ended(self):
        return self.status in ENDED

    def changed(self, **more):
        """The processor with other words for these attributes."""
        told = {
            "place": self.place,
            "regs": self.regs,
            "buffer": self.buffer,
            "lines": self.lines,
            "alarm": self.alarm,
            "vector": self.vector,
            "mode": self.mode,
            "saved": self.saved,
            "cause": self.cause,
            "kept": self.kept,
            "page": self.page,
            "status": self.status,
        }
        told.update(more)
        return Processor(**told)


class World:
    """What a machine has at one moment; it never changes."""

    def __init__(self, *, moment, cells, rights, turn, left, typed, shown, noted, processors):
        self.moment = moment
        self.cells = cells
        self.rights = rights
        self.turn = turn
        self.left = left
        self.typed = typed
        self.shown = shown
        self.noted = noted
        self.processors = processors

    def facts(self):
        """The attributes, the last one as the tuple of the facts of the processors."""
        heads = (self.moment, self.cells, self.rights, self.turn, self.left, self.typed, self.shown, self.noted)
        return heads + (tuple([processor.facts() for processor in self.processors]),)

    def __eq__(self, other):
        return isinstance(other, World) and self.facts() == other.facts()

    def changed(self, **more):
        """The world with others for these attributes."""
        told = {
            "moment": self.moment,
            "cells": self.cells,
            "rights": self.rights,
            "turn": self.turn,
            "left": self.left,
            "typed": self.typed,
            "shown": self.shown,
            "noted": self.noted,
            "processors": self.processors,
        }
        told.update(more)
        return World(**told)

    def with_processor(self, q, processor):
        """The world in which this is the processor q."""
        return self.changed(processors=self.processors[:q] + (processor,) + self.processors[q + 1:])


def check_q(world, q):
    """Returns q if it is the number of a processor."""
    return check_int(q, 0, len(world.processors) - 1, "q")


def check_word(world, word, name):
    """Returns the word if it is one of the world's width."""
    return check_int(word, 0, len(world.cells) - 1, name)


def check_world(machine, world):
    """Raises unless the world is one of this machine."""
    if not isinstance(world, World):
        raise BadWorld("world")
    if len(world.cells) != 1 << machine.word or len(world.processors) != machine.processors:
        raise BadWorld("world")
    if not all([len(processor.regs) == machine.book.registers for processor in world.processors]):
        raise BadWorld("world")
    if world.turn >= len(machine.turns):
        raise BadWorld("world")
    if not 1 <= world.left <= machine.turns[world.turn][1] and not is_over(world):
        raise BadWorld("world")
    if not all([len(processor.buffer) <= machine.depth for processor in world.processors]):
        raise BadWorld("world")


def placed(world, q, place, regs):
    """The world in which q has this place and these registers."""
    check_q(world, q)
    check_word(world, place, "place")
    own = world.processors[q]
    width = len(world.cells).bit_length() - 1
    regs = check_words(regs, width, len(own.regs))
    return world.with_processor(q, own.changed(place=place, regs=regs))


def with_cell(world, x, v):
    """The world in which cell x is v."""
    check_word(world, x, "x")
    check_word(world, v, "v")
    return world.changed(cells=world.cells[:x] + (v,) + world.cells[x + 1:])


def turn_of(machine, world):
    """The number of the processor of the present turn."""
    check_world(machine, world)
    return machine.turns[world.turn][0]


def is_over(world):
    """Whether all processors have ended."""
    return all([processor.ended() for processor in world.processors])
