"""The errors of the package, those of later stages too."""


class Refusal(Exception):
    """Something that the package refuses."""


class BadNumber(Refusal):
    """An argument is not an integer within its bounds."""

    def __init__(self, name):
        self.name = name


class BadWords(Refusal):
    """A row has a wrong entry; at is -1 if it is no row or has a wrong length."""

    def __init__(self, at):
        self.at = at


class BadPart(Refusal):
    """A number is not that of a part."""


class BadOp(Refusal):
    """A name is not that of an operation."""

    def __init__(self, op):
        self.op = op


class TooMany(Refusal):
    """More than the stated size."""

    def __init__(self, name):
        self.name = name


class BadLine(Refusal):
    """A line of a text is wrong."""

    def __init__(self, number):
        self.number = number


class BadBook(Refusal):
    """A form of a guest book is wrong, or one of its lines."""

    def __init__(self, form, line):
        self.form = form
        self.line = line


class OneCode(Refusal):
    """Two forms share a code."""

    def __init__(self, first, second, code):
        self.first = first
        self.second = second
        self.code = code


class HalfDone(Refusal):
    """An instruction can fail behind its effect."""

    def __init__(self, form, code, place, regs, answers):
        self.form = form
        self.code = code
        self.place = place
        self.regs = regs
        self.answers = answers


class BadSource(Refusal):
    """A row of a source, or an instruction, is wrong."""

    def __init__(self, number):
        self.number = number


class BadMachine(Refusal):
    """The events or turns of a machine are wrong."""

    def __init__(self, name):
        self.name = name


class BadWorld(Refusal):
    """A world, or what is to be done in it, does not fit."""

    def __init__(self, name):
        self.name = name


class IsOver(Refusal):
    """Nothing is left to be done."""


class BadHouse(Refusal):
    """An order or a rule of a house book is wrong."""

    def __init__(self, name, at):
        self.name = name
        self.at = at


class RuleWrong(Refusal):
    """A rule leaves another word than its operation gives."""

    def __init__(self, op, words, left):
        self.op = op
        self.words = words
        self.left = left


class NoRule(Refusal):
    """A line needs a rule that the house has not."""

    def __init__(self, op, form, code):
        self.op = op
        self.form = form
        self.code = code


class BadPair(Refusal):
    """A guest book and a house book do not fit."""


class BadRow(Refusal):
    """A house row is wrong."""

    def __init__(self, at):
        self.at = at


class Unlike(Refusal):
    """A house row does not do what its road does."""

    def __init__(self, regs, answers):
        self.regs = regs
        self.answers = answers


class Dearer(Refusal):
    """A leave of a house row is dearer than allowed."""

    def __init__(self, leave, price, most):
        self.leave = leave
        self.price = price
        self.most = most


class NoRoom(Refusal):
    """A house row uses a slot beyond the room of its pair."""

    def __init__(self, slot):
        self.slot = slot


class BadPlan(Refusal):
    """An entry of a plan is wrong."""

    def __init__(self, at):
        self.at = at
