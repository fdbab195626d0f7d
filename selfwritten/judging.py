"""The judge: whether two sketches do the same."""

from selfwritten.groups import grouped
from selfwritten.lines import ANSWERED
from selfwritten.sketches import ask_words
from selfwritten.solving import solved


def judged(one, other):
    """Registers and answers for which the sketches play differently, or None."""
    many = max(_answers_in(one.chain), _answers_in(other.chain))
    limits = [one.word] * (one.registers + many)
    found = difference(one.pool, limits, one.registers, one.chain, other.chain)
    if found is None:
        return None
    words, answers = found
    return words[:one.registers], answers


def _answers_in(chain):
    """How many answers are words, of the asks of a chain."""
    return len([item for item in chain if item[0] == "ask" and item[1] in ANSWERED])


def difference(pool, limits, first, one, other):
    """Words of the unknowns and answers for which two chains play differently, or None.

    first is the unknown of the first answer.
    """
    judge = Judge(pool, limits)
    # The unknowns of the answers to the asks that both make, None for those without.
    asked = []
    ours, theirs = Stretch(one, 0), Stretch(other, 0)
    while True:
        words = judge.apart(ours, theirs)
        if words is not None:
            answers = [0 if told is None else words[told] for told in asked]
            return words, tuple(answers) + _last_answer(pool, ours, theirs, words)
        if ours.stop[:3] != theirs.stop[:3] or ours.stop[0] != "ask":
            return None
        judge.take(ours.tests() + theirs.tests())
        unknown = first + len([told for told in asked if told is not None])
        asked.append(unknown if ours.stop[1] in ANSWERED else None)
        ours, theirs = Stretch(one, ours.rest), Stretch(other, theirs.rest)


def _last_answer(pool, ours, theirs, words):
    """The last answer that is shown: None if both make the same ask at these words."""
    asks = [_ask_at(pool, stretch, words) for stretch in (ours, theirs)]
    return (None,) if asks[0] is not None and asks[0] == asks[1] else ()


def _ask_at(pool, stretch, words):
    """The ask that is made at these words, None if the run leaves ahead of it or there is none."""
    for test in stretch.tests():
        if pool.value(test, words) == 0:
            return None
    if stretch.stop[0] != "ask":
        return None
    _, name, port, parts, _, _ = stretch.stop
    return ask_words(pool, name, port, parts, words)


class Stretch:
    """A chain from one item on to its next ask or end."""

    def __init__(self, chain, begin):
        at = begin
        while chain[at][0] == "leave":
            at += 1
        self.leaves = chain[begin:at]
        self.stop = chain[at]
        self.rest = at + 1

    def tests(self):
        """The tests of all leaves."""
        return [test for _, test, _ in self.leaves]

    def ways(self):
        """Pairs of the demands and the item with which the way ends."""
        found = []
        ahead = []
        for leave in self.leaves:
            found.append((ahead + [(leave[1], False)], leave))
            ahead = ahead + [(leave[1], True)]
        found.append((ahead, self.stop))
        return found


class Judge:
    """What was passed on the walk, and what was decided by now."""

    def __init__(self, pool, limits):
        self.pool = pool
        self.limits = limits
        self.passed = []
        self.decided = {}

    def take(self, tests):
        """The tests are passed from now on."""
        self.passed = self.passed + [(test, True) for test in tests]

    def apart(self, ours, theirs):
        """Words at which the next stretches of both chains end differently, or None."""
        for demands, end in ours.ways():
            for more, other in theirs.ways():
                together = self.joined(self.passed + demands + more)
                if together is not None:
                    words = self.ends_apart(together, end, other)
                    if words is not None:
                        return words
        return None

    def joined(self, demands):
        """The demands, each once, those on numbers left out; None if no words keep them."""
        wanted = {}
        for part, want in demands:
            row = self.pool.part(part)
            if row[0] == "num":
                if (row[1] != 0) != want:
                    return None
            elif wanted.setdefault(part, want) != want:
                return None
        return [(part, wanted[part]) for part in sorted(wanted)]

    def ends_apart(self, demands, end, other):
        """Words that keep the demands and at which two ways end differently, or None."""
        if _kind(end) != _kind(other):
            return self.words_for(demands)
        for part, twin in zip(_parts(end), _parts(other)):
            # Parts that have one word everywhere need no look at the way.
            if part != twin and self.words_for(self.unlike(part, twin)) is not None:
                both = self.joined(demands + self.unlike(part, twin))
                words = None if both is None else self.words_for(both)
                if words is not None:
                    return words
        return None

    def unlike(self, part, twin):
        """The demand that two parts have different words."""
        return [(self.pool.apply("xor", part, twin), True)]

    def words_for(self, demands):
        """Words that keep the demands, or None."""
        words = [0] * len(self.limits)
        for group in list(grouped(self.pool, demands)):
            found = self.group_words(group)
            if found is None:
                return None
            words = [one | more for one, more in zip(words, found)]
        return tuple(words)

    def group_words(self, group):
        """As words_for, for the demands of one group, which are decided once."""
        key = tuple(group)
        if key not in self.decided:
            self.decided[key] = solved(self.pool, self.limits, group)
        return self.decided[key]


def _hand(end):
    """The hand with which a way ends, for an ask the one of its answer None."""
    return end[4] if end[0] == "ask" else end[-1]


def _kind(end):
    """What is compared without words: the ask's name and port, the cause, and the count done."""
    return (end[:3] if end[0] == "ask" else None), _hand(end)[:2]


def _parts(end):
    """The parts whose words are compared."""
    _, _, place, regs = _hand(end)
    return (end[3] if end[0] == "ask" else ()) + (place,) + regs
