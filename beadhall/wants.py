"""The wants of a goal: the beads from which doors go to such as the goal lies beneath."""

from beadhall.bags import beneath
from beadhall.errors import TooWide
from beadhall.goings import need_ahead
from beadhall.nets import gain


class Wants:
    def __init__(self, goal):
        self.bags = [list(goal)]
        self.movers = [-1]
        self.leads = [-1]


def least_ahead(net, goal, door):
    return need_ahead(net.takes[door], gain(net, door), goal)


def wants(net, goal, room):
    found = Wants(goal)
    want = 0
    while want < len(found.bags):
        for door in range(len(net.doors)):
            put_want(found, want, door, least_ahead(net, found.bags[want], door), room)
        want = want + 1
    return found


def put_want(found, want, door, bag, room):
    if first_beneath(found, bag) >= 0:
        return
    if len(found.bags) >= room:
        raise TooWide("more wants than there is room for")
    found.bags.append(bag)
    found.movers.append(door)
    found.leads.append(want)


# The first want that lies beneath the beads, -1 where none does.
def first_beneath(found, beads):
    for want, bag in enumerate(found.bags):
        if beneath(bag, beads):
            return want
    return -1


def way_from(found, beads):
    want = first_beneath(found, beads)
    if want < 0:
        return None
    doors = []
    while found.leads[want] >= 0:
        doors.append(found.movers[want])
        want = found.leads[want]
    return doors
