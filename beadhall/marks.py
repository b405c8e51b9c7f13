"""Marks: beads, some of which may be without end. None stands for these."""

from beadhall.bags import outermost
from beadhall.errors import NoGo
from beadhall.nets import gain


def under(low, high):
    return all([is_no_more(number, bound) for number, bound in zip(low, high)])


def is_no_more(number, bound):
    return bound is None or (number is not None and number <= bound)


def may_mark(net, mark, door):
    return under(net.takes[door], mark)


def mark_after(net, mark, door):
    if not may_mark(net, mark, door):
        raise NoGo("a door that may not go from a mark", 0)
    return [None if number is None else number + more for number, more in zip(mark, gain(net, door))]


def raised(low, mark):
    grown = [number if number == before else None for before, number in zip(low, mark)]
    if not under(low, mark) or grown == mark:
        return None
    return grown


def peak_marks(marks):
    return outermost(marks, under)
