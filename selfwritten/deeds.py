"""What an instruction does: its asks, and what it hands over."""

from selfwritten.codes import form_of
from selfwritten.errors import BadWords
from selfwritten.grammar import EFFECTS
from selfwritten.lines import letters_told
from selfwritten.operations import op_word
from selfwritten.widths import check_int, check_length, check_words, is_word, ones

ASKING = ("read", "write", "in", "out")

# The causes with which a run ends where an ask is answered no; others have none.
REFUSED = {"read": 10, "write": 11}


class Answers:
    """Answers given one after another, no behind the last one, and the asks made."""

    def __init__(self, answers):
        self.answers = answers
        self.asks = []

    def answer(self, ask):
        at = len(self.asks)
        self.asks.append(ask)
        return answer_at(self.answers, at)


def answer_at(answers, at):
    """The answer to the ask of this number."""
    return answers[at] if at < len(answers) else None


class Doing:
    """An instruction whose lines are being done, from a place and registers."""

    def __init__(self, book, instruction, place, regs):
        name, numbers = instruction
        self.form = book.form_named(name)
        self.word = book.word
        self.letters = letters_told(self.form, numbers)
        self.place = place
        self.after = (place + self.form.size) & ones(book.word)
        self.regs = regs
        self.words = []

    def told(self, entry):
        """The number that a letter stands for, or the number itself."""
        return self.letters[entry] if isinstance(entry, str) else entry

    def ask(self, line):
        """The ask that a line makes."""
        if line[0] == "in":
            return ("in", line[1])
        if line[0] == "out":
            return ("out", line[1], self.words[line[2]])
        return (line[0],) + tuple([self.words[number] for number in line[1:]])

    def value(self, line):
        """The word of a value line that asks nothing."""
        name = line[0]
        if name == "get":
            return self.regs[self.told(line[1])]
        if name == "num":
            return self.told(line[1])
        if name == "here":
            return self.place
        if name == "next":
            return self.after
        return op_word(name, self.words[line[1]], self.words[line[2]], self.word)

    def stopped(self, cause):
        """What is handed over if the run ends before all lines are done."""
        return (cause, 0, self.place, self.regs)

    def finished(self):
        """What is handed over when all lines are done."""
        place = self.after
        regs = list(self.regs)
        for line in self.form.lines:
            if line[0] == "put":
                regs[self.told(line[1])] = self.words[line[2]]
            elif line[0] == "goto":
                place = self.words[line[1]]
        return (None, 1, place, tuple(regs))


def handed_over(book, instruction, place, regs, asker):
    """What an instruction of the book hands over; asker has a method that answers an ask."""
    doing = Doing(book, instruction, place, regs)
    for line in list(doing.form.lines):
        name = line[0]
        word = None
        if name in ASKING:
            word = asker.answer(doing.ask(line))
            if word is None:
                return doing.stopped(REFUSED.get(name))
        elif name == "must":
            if doing.words[line[1]] == 0:
                return doing.stopped(line[2])
        elif name not in ("put", "goto"):
            word = doing.value(line)
        doing.words.append(word)
    return doing.finished()


def check_answers(word, answers):
    """Returns the tuple of the answers, each None or a word of this width."""
    check_length(answers, None)
    for at, answer in enumerate(answers):
        if answer is not None and not is_word(answer, word):
            raise BadWords(at)
    return tuple(answers)


def run_code(book, instruction, place, regs, answers):
    """The run of an instruction: the asks made, and what is handed over."""
    form_of(book, instruction)
    check_int(place, 0, ones(book.word), "place")
    regs = check_words(regs, book.word, book.registers)
    asker = Answers(check_answers(book.word, answers))
    handed = handed_over(book, instruction, place, regs, asker)
    return tuple(asker.asks), handed


def named(book, instruction):
    """The registers that the lines of an instruction get or put."""
    form = form_of(book, instruction)
    told = letters_told(form, instruction[1])
    entries = [line[1] for line in form.lines if line[0] in ("get", "put")]
    found = {told.get(entry, entry): True for entry in entries}
    return tuple(sorted(found))


def whole(asks, answers, handed):
    """Whether the run did nothing that lasts without being done."""
    if handed[1] != 0:
        return True
    done = [at for at, ask in enumerate(asks) if answer_at(answers, at) is not None]
    return not any([asks[at][0] in EFFECTS for at in done])
