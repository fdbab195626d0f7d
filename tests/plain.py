"""A plain machine of the tests, written from [61] to [81] alone, and books and worlds to run on it."""

from model import Stop, drawn_apart, matches, numbers_of, code_of, run_lines
from selfwritten.books import Book
from selfwritten.checking import is_let_by
from selfwritten.errors import TooMany
from selfwritten.happenings import start
from selfwritten.machines import Machine

NAMES = ("place", "regs", "buffer", "lines", "alarm", "vector", "mode", "saved", "cause", "kept", "page", "status")


class Plain:
    """A machine and what it has, as lists that change; x is a cell that is watched ([83])."""

    def __init__(self, machine, world, x=None):
        self.machine, self.size = machine, 2 ** machine.word
        facts = world.facts()
        self.moment, self.cells, self.rights = facts[0], list(facts[1]), list(facts[2])
        self.turn, self.left, self.typed = facts[3], facts[4], list(facts[5])
        self.shown, self.noted = list(facts[6]), list(facts[7])
        self.own = [dict(zip(NAMES, own)) for own in facts[8]]
        for own in self.own:
            own["buffer"], own["lines"] = list(own["buffer"]), list(own["lines"])
        self.x, self.met = x, False

    def facts(self):
        own = [dict(own, buffer=tuple(own["buffer"]), lines=tuple(sorted(own["lines"]))) for own in self.own]
        return (self.moment, tuple(self.cells), tuple(self.rights), self.turn, self.left, tuple(self.typed),
                tuple(self.shown), tuple(self.noted), tuple(tuple(one[name] for name in NAMES) for one in own))

    def ended(self, q):
        return self.own[q]["status"] in ("stopped", "fallen")

    def over(self):
        return all(self.ended(q) for q in range(len(self.own)))

    def set_cell(self, x, v):
        self.met = self.met or x == self.x
        self.cells[x] = v

    def settle(self, q):
        if self.own[q]["buffer"]:
            x, v = self.own[q]["buffer"].pop(0)
            self.set_cell(x, v)

    def signal(self, q, line):
        if line not in self.own[q]["lines"]:
            self.own[q]["lines"].append(line)

    def answer(self, q, ask):
        own = self.own[q]
        kind, *rest = ask
        if kind == "read":
            if not self.rights[rest[0] * 8 // self.size] & 4:
                return None
            waiting = [v for x, v in own["buffer"] if x == rest[0]]
            self.met = self.met or (rest[0] == self.x and not waiting)
            return waiting[-1] if waiting else self.cells[rest[0]]
        if kind == "write":
            if not self.rights[rest[0] * 8 // self.size] & 2:
                return None
            own["buffer"].append((rest[0], rest[1]))
            while len(own["buffer"]) > self.machine.depth:
                self.settle(q)
            return 0
        if kind == "in":
            return self.come_in(q, rest[0])
        self.go_out(q, *rest)
        return 0

    def come_in(self, q, p):
        own = self.own[q]
        if p == 0:
            return self.typed.pop(0) if self.typed else 0
        if p == 3:
            own["mode"] = 0
        return {1: self.moment % self.size, 2: q, 3: own["saved"], 4: own["cause"], 5: own["kept"]}[p]

    def go_out(self, q, p, x):
        own = self.own[q]
        if p == 0:
            self.shown.append((self.moment, q, x))
        if p == 1:
            own["alarm"] = self.moment + x if x > 0 else None
        if p == 2:
            own["vector"] = x
        if p == 3:
            own["page"] = x % 8
        if p == 4:
            self.rights[own["page"]] = x % 8
        if p == 5:
            own["kept"] = x
        if p in (6, 8):
            while own["buffer"]:
                self.settle(q)
        if p == 7:
            own["status"] = "resting"
        if p == 8:
            own["status"] = "stopped"
        if p == 9:
            self.signal(x % len(self.own), 3)

    def event(self, kind, *rest):
        if kind == "key":
            self.typed.append(rest[0])
            self.signal(0, 2)
        if kind == "line":
            self.signal(*rest)
        if kind == "cell":
            self.set_cell(*rest)
        if kind == "rights":
            self.rights[rest[0]] = rest[1]
        if kind == "drain":
            self.settle(rest[0])

    def close(self):
        self.moment += 1
        self.left -= 1
        turns = self.machine.turns
        if self.left == 0 or self.ended(turns[self.turn][0]):
            found = [(self.turn + ahead) % len(turns) for ahead in range(1, len(turns) + 1)]
            found = [turn for turn in found if not self.ended(turns[turn][0])]
            self.turn, self.left = (found[0], turns[found[0]][1]) if found else (self.turn, 0)
        for moment, *event in self.machine.events:
            if moment == self.moment:
                self.event(*event)
        for q, own in enumerate(self.own):
            if own["alarm"] == self.moment:
                own["alarm"] = None
                self.signal(q, 1)

    def ready(self, q):
        return self.own[q]["mode"] == 0 and self.own[q]["vector"] is not None

    def take(self, q, cause):
        own = self.own[q]
        self.noted.append((self.moment, q, cause, own["place"]))
        own.update(saved=own["place"], cause=cause, mode=1, place=own["vector"])

    def meet(self, q, cause):
        if self.ready(q):
            self.take(q, cause)
            return "fault"
        self.noted.append((self.moment, q, cause, self.own[q]["place"]))
        self.own[q].update(cause=cause, status="fallen")
        return "fall"

    def fetch(self, place):
        """The form and numbers, the looks, and the fault, as [76] and [38] tell."""
        looks, cells = [], []
        while True:
            x = (place + len(cells)) % self.size
            page = x * 8 // self.size
            looks.append(("go", page, self.rights[page] % 2))
            if self.rights[page] % 2 == 0:
                return None, looks, 8
            looks.append(("cell", x, self.cells[x]))
            self.met = self.met or x == self.x
            cells.append(self.cells[x])
            fitting = [form for form in self.machine.book.forms
                       if all(matches(*pair) for pair in zip(form.patterns, cells))]
            for form in fitting:
                if len(form.patterns) == len(cells):
                    return (form, cells), looks, None
            if not [form for form in fitting if len(form.patterns) > len(cells)]:
                return None, looks, 9

    def run_form(self, q, form, cells):
        """What the instruction hands over."""
        numbers = [row for row in numbers_of(form) if code_of(form, row) == tuple(cells)][0]
        own, answers = self.own[q], []
        place, regs = own["place"], own["regs"]
        while True:
            try:
                return run_lines(self.machine.book, form, numbers, place, regs, answers, "stop")[1]
            except Stop as stop:
                answers.append(self.answer(q, stop.args[0]))

    def step(self):
        """Makes a step, and returns its kind."""
        self.met = False
        q = self.machine.turns[self.turn][0]
        kind = self.work(q)
        self.close()
        return kind

    def work(self, q):
        own = self.own[q]
        if own["status"] == "resting":
            if not own["lines"]:
                return "idle"
            own["status"] = "on"
        if self.ready(q) and own["lines"]:
            least = min(own["lines"])
            own["lines"].remove(least)
            self.take(q, least)
            return "taken"
        found, _, fault = self.fetch(own["place"])
        if fault is None:
            cause, _, place, regs = self.run_form(q, *found)
            if cause is None:
                own.update(place=place, regs=regs)
                return "done"
            fault = cause
        return self.meet(q, fault)


def worker_book(word):
    """A book with an instruction for nearly everything; most codes that begin with 11 are none."""
    fill = "0" * (word - 4)
    one = lambda bits: (fill + bits,)
    two = lambda bits, more: (fill + bits, more)
    numbers = "n" * word
    forms = [
        ("nop", one("0000"), []),
        ("incr", one("0001"), [("get", 0), ("num", 1), ("add", 0, 1), ("put", 0, 2)]),
        ("set", two("001a", numbers), [("num", "n"), ("put", "a", 0)]),
        ("jmp", two("0100", numbers), [("num", "n"), ("goto", 0)]),
        ("ld", one("0101"), [("get", 0), ("read", 0), ("put", 1, 1)]),
        ("st", one("0110"), [("get", 0), ("get", 1), ("write", 0, 1)]),
        ("swap", one("0111"), [("get", 0), ("get", 1), ("put", 0, 1), ("put", 1, 0)]),
        ("plus", one("1010"), [("get", 0), ("get", 1), ("add", 0, 1), ("put", 1, 2)]),
        ("jeq", two("1011", numbers), [("get", 0), ("get", 1), ("same", 0, 1), ("num", 0), ("sub", 3, 2),
                                       ("num", "n"), ("next",), ("xor", 5, 6), ("and", 7, 4), ("xor", 6, 8),
                                       ("goto", 9)]),
        ("must", one("1100"), [("get", 1), ("must", 0, 13), ("get", 0), ("put", 1, 2)]),
        ("move", (fill + "1101", fill + "00ab", numbers), [("get", "a"), ("read", 0), ("num", "n"), ("add", 1, 2),
                                                           ("get", "b"), ("write", 4, 3), ("put", "b", 1)]),
    ]
    for port in range(6):
        forms.append(("in" + "abcdef"[port], (fill + "1000", fill + format(port, "04b")), [("in", port), ("put", 0, 0)]))
    for port in range(10):
        forms.append(("out" + "abcdefghij"[port], (fill + "1001", fill + format(port, "04b")),
                      [("get", 0), ("out", port, 0)]))
    return Book(word, 2, forms)


BOOKS = {word: worker_book(word) for word in (4, 8)}


def let_by_book(rng, word, registers):
    """A drawn book that is let by."""
    while True:
        book = drawn_apart(rng, word, registers, rng.randrange(1, 9), lines=6)
        try:
            if is_let_by(book):
                return book
        except TooMany:
            pass


def drawn_machine(rng, word=4, book=None, processors=None, depth=None, events=True):
    """A machine with drawn turns and events; most of its books are the worker's."""
    book = book or (BOOKS[word] if rng.random() < 0.75 else let_by_book(rng, word, rng.randrange(1, 4)))
    processors = processors or rng.randrange(1, 4)
    depth = rng.randrange(4) if depth is None else depth
    turns = [(q, rng.choice((1, 1, 2, 3, 7))) for q in range(processors)]
    turns += [(rng.randrange(processors), rng.randrange(1, 4)) for _ in range(rng.randrange(3))]
    rng.shuffle(turns)
    rows = []
    for _ in range(rng.randrange(12) if events else 0):
        size = 2 ** word
        rows.append((rng.randrange(40), *rng.choice((
            ("key", rng.randrange(size)), ("line", rng.randrange(processors), rng.randrange(1, 8)),
            ("cell", rng.randrange(size), rng.randrange(size)), ("rights", rng.randrange(8), rng.choice((7, 7, 6, 5, 3))),
            ("drain", rng.randrange(processors))))))
    return Machine(book, depth=depth, events=rows, turns=turns, processors=processors)


def drawn_image(rng, machine):
    """An image of codes of the book, most of them whole, and some other words."""
    size, cells = 2 ** machine.word, []
    while len(cells) < size:
        form = rng.choice(machine.book.forms)
        if rng.random() < 0.08:
            cells.append(rng.randrange(size))
        elif form.name not in ("outi", "outh") or rng.random() < 0.3:
            numbers = [rng.randrange(2 ** bits) for _, bits in form.letters]
            cells.extend(code_of(form, numbers))
    return cells[:size]


def drawn_start(rng, machine):
    """A first world with a drawn image."""
    size = 2 ** machine.word
    places = [rng.randrange(size) for _ in range(machine.processors)]
    vectors = [rng.choice((None, rng.randrange(size), rng.randrange(size))) for _ in places]
    rights = [rng.choice((7, 7, 7, 7, 7, 5, 3, 6)) for _ in range(8)]
    return start(machine, drawn_image(rng, machine), places, rights=rights, vectors=vectors)
