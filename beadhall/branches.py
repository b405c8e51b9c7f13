"""Branches: doors with loops that make bowls endless, and the blocks that show that they are."""

from beadhall.blocks import block_gain
from beadhall.blocks import block_need
from beadhall.errors import NoGo
from beadhall.goings import gain_of
from beadhall.goings import need_ahead
from beadhall.marks import mark_after
from beadhall.marks import may_mark
from beadhall.marks import raised


def branch_marks(net, branch):
    marks = [list(net.first)]
    for door, loops in branch:
        marks.append(mark_behind(net, marks, door, loops))
    return marks


# The marks are those of the points ahead, so their number tells the place of the pair.
def mark_behind(net, marks, door, loops):
    place = len(marks) - 1
    if not may_mark(net, marks[place], door):
        raise NoGo("a pair whose door may not go", place)
    mark = mark_after(net, marks[place], door)
    for point in loops:
        if not 0 <= point <= place:
            raise NoGo("a loop that is no point ahead", place)
        mark = raised(marks[point], mark)
        if mark is None:
            raise NoGo("a loop whose mark does not grow", place)
    return mark


# A loop takes from bowls that were endless ahead of it. How much these must hold is known only when it is
# known how often the loop is told, and that when it is known how much is wanted behind it: hence from the end.
# What is wanted of bowls that have a number there is of no account: they hold that number in any case.
def pump(net, branch, many):
    wanted = [many] * len(net.bowls)
    blocks = []
    for ahead, doors, is_loop in reversed(legs_of(net, branch)):
        block = (often_enough(net, ahead, doors, wanted) if is_loop else 1, doors)
        wanted = need_ahead(block_need(net, [block]), block_gain(net, [block]), wanted)
        blocks.append(block)
    return [block for block in reversed(blocks) if block[0] > 0]


# For each door and for each loop, as they go: the mark ahead, the doors that go, and whether it is a loop.
def legs_of(net, branch):
    marks = branch_marks(net, branch)
    doors = [door for door, loops in branch]
    legs = []
    for place, pair in enumerate(branch):
        legs.append((marks[place], [pair[0]], False))
        mark = mark_after(net, marks[place], pair[0])
        for point in pair[1]:
            legs.append((mark, doors[point:place + 1], True))
            mark = raised(marks[point], mark)
    return legs


# A bowl that has a number ahead of the loop and gains by it is one that becomes endless by it.
def often_enough(net, ahead, doors, wanted):
    often = 0
    for bowl, gained in enumerate(gain_of(net, doors)):
        if ahead[bowl] is not None and gained > 0:
            lacking = wanted[bowl] - ahead[bowl]
            often = max(often, (lacking + gained - 1) // gained)
    return often
