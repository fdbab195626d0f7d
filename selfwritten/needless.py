"""Musts, keeps and asks of a road that no run needs or comes to."""

from selfwritten.judging import Judge
from selfwritten.pools import Pool
from selfwritten.sketches import sketch_of_road


def needless_musts(book, road):
    """The pairs of an instruction's and a line's number whose must finds 0 in no run."""
    told = _told_leaves(book, road)
    return tuple([name for name, kept in told if kept and len(name) == 2])


def sure_keeps(book, road):
    """The boundaries behind a goto at which no run is off the road."""
    told = _told_leaves(book, road)
    return tuple([name[0] for name, kept in told if kept and len(name) == 1])


def ever_asked(book, road):
    """For each ask of the road's sketch whether some run comes to it."""
    judge, chain = _judge_and_chain(book, road)
    found = []
    for item in chain:
        if item[0] == "leave":
            judge.take([item[1]])
        elif item[0] == "ask":
            found.append(_may_be(judge, []))
    return tuple(found)


def _judge_and_chain(book, road):
    """A judge of the road's sketch, and its chain."""
    pool = Pool(book.word)
    sketch = sketch_of_road(pool, book, road)
    answers = len([item for item in sketch.chain if item[0] == "ask" and item[5] is not None])
    return Judge(pool, [book.word] * (book.registers + answers)), sketch.chain


def _may_be(judge, demands):
    """Whether some run passes what was passed and keeps the demands."""
    together = judge.joined(judge.passed + demands)
    return together is not None and judge.words_for(together) is not None


def _told_leaves(book, road):
    """For each leave of the road's sketch its name, and whether no run leaves there."""
    judge, chain = _judge_and_chain(book, road)
    kept = []
    for item in chain:
        if item[0] == "leave":
            kept.append(not _may_be(judge, [(item[1], False)]))
            judge.take([item[1]])
    return list(zip(_names(book, road), kept))


def _names(book, road):
    """For each leave of the road's sketch (instruction, line) of a must, or (boundary,)."""
    names = []
    for i, (name, _) in enumerate(road.instructions):
        form = book.form_named(name)
        names.extend([(i, at) for at, line in enumerate(form.lines) if line[0] == "must"])
        if form.goto is not None and i + 1 < len(road):
            names.append((i + 1,))
    return names
