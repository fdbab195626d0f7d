"""Runs of the fast machine, deed by deed."""

from selfwritten.widths import check_int


def meanings(fast, moment):
    """Yields the meaning, and then the meaning behind each deed of a run to the moment."""
    check_int(moment, 0, None, "moment")
    yield fast.meaning()
    while fast.deed(moment) != "none":
        yield fast.meaning()


def cut(fast, moment, deeds):
    """Does so many deeds of a run to the moment, if there are as many; returns the meaning."""
    check_int(moment, 0, None, "moment")
    check_int(deeds, 0, None, "deeds")
    done = 0
    while done < deeds and fast.deed(moment) != "none":
        done += 1
    return fast.meaning()
