"""The rooms of a net: all beads that are behind some run."""

from beadhall.errors import TooWide
from beadhall.goings import after
from beadhall.goings import may


class Rooms:
    def __init__(self, first):
        self.bags = [list(first)]
        self.parents = [-1]
        self.comers = [-1]


def roomed(net, room):
    found = Rooms(net.first)
    number = 0
    while number < len(found.bags):
        for door in range(len(net.doors)):
            if may(net, found.bags[number], door):
                put_room(found, number, door, after(net, found.bags[number], door), room)
        number = number + 1
    return found


def put_room(found, parent, door, beads, room):
    if beads in found.bags:
        return
    if len(found.bags) >= room:
        raise TooWide("more rooms than were told")
    found.bags.append(beads)
    found.parents.append(parent)
    found.comers.append(door)


def run_to(found, number):
    doors = []
    while found.parents[number] >= 0:
        doors.append(found.comers[number])
        number = found.parents[number]
    return list(reversed(doors))
