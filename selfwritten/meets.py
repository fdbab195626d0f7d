"""Where desks meet, and where a fast machine would differ from the plain one."""

from selfwritten.meetings import meeting
from selfwritten.runs import idle_steps, run_leaping
from selfwritten.widths import check_int
from selfwritten.worlds import is_over


def desks_meet(one, other, moment):
    """The first moment at which the runs of both desks from here on are equal, or None."""
    return meeting(one.machine, one.here, other.here, moment)


def first_unlike(machine, fast, moment):
    """The first moment at which the fast machine's world is not that of the plain machine, or None."""
    check_int(moment, 0, None, "moment")
    plain = fast.meaning()
    at = plain.moment + 1
    while at <= moment:
        told = run_leaping(machine, plain, at)
        plain = fast.run(at)
        if plain != told:
            return at
        if is_over(plain):
            return None
        # From equal worlds on both make the same idle steps, so only the last one of a leap is looked at.
        many = min(idle_steps(machine, plain, moment), idle_steps(fast.machine, plain, moment))
        at += max(many, 1)
    return None
