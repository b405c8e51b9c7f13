"""Goings: doors that go from beads, one by one and in rows, and tallies of doors."""

from beadhall.bags import beneath
from beadhall.bags import higher
from beadhall.bags import less
from beadhall.bags import plus
from beadhall.bags import times
from beadhall.errors import NoGo
from beadhall.nets import gain


def may(net, beads, door):
    return beneath(net.takes[door], beads)


def after(net, beads, door):
    return walked(net, beads, [door])[-1]


def walked(net, beads, doors):
    met = [list(beads)]
    for place, door in enumerate(doors):
        if not may(net, met[-1], door):
            raise NoGo("a door that may not go", place)
        met.append(plus(met[-1], gain(net, door)))
    return met


def gain_of(net, doors):
    return tally_gain(net, tally_of(net, doors))


def need_of(net, doors):
    need = [0] * len(net.bowls)
    for door in reversed(doors):
        need = need_ahead(net.takes[door], gain(net, door), need)
    return need


# Of a row that has this need and gains so much: the least beads from which it goes
# to beads that the goal lies beneath.
def need_ahead(need, gained, goal):
    return higher(need, less(goal, gained))


def tally_of(net, doors):
    return [doors.count(door) for door in range(len(net.doors))]


def tally_gain(net, tally):
    gained = [0] * len(net.bowls)
    for door, many in enumerate(tally):
        gained = plus(gained, times(many, gain(net, door)))
    return gained
