"""Nets: bowls, doors, what each door takes and gives, and the first beads."""

from beadhall.bags import less
from beadhall.errors import BadNet

LEAST_BOWLS = 1
MOST_BOWLS = 6
MOST_DOORS = 8
MOST_SIGNS = 8
MOST_BEADS = 1000000000


class Net:
    def __init__(self, bowls, doors, takes, gives, first):
        refuse_bad_names(bowls, LEAST_BOWLS, MOST_BOWLS)
        refuse_bad_names(doors, 0, MOST_DOORS)
        refuse_bad_bags(takes, len(doors), len(bowls))
        refuse_bad_bags(gives, len(doors), len(bowls))
        refuse_bad_bags([first], 1, len(bowls))
        self.bowls = list(bowls)
        self.doors = list(doors)
        self.takes = [list(bag) for bag in takes]
        self.gives = [list(bag) for bag in gives]
        self.first = list(first)


def refuse_bad_names(names, least, most):
    if not least <= len(names) <= most:
        raise BadNet("too many or too few names")
    for name in names:
        if not is_name(name):
            raise BadNet("a name that is no name")
    if len(set(names)) != len(names):
        raise BadNet("two names alike")


def is_name(word):
    return 1 <= len(word) <= MOST_SIGNS and all(["a" <= sign <= "z" for sign in word])


def refuse_bad_bags(bags, many, width):
    if len(bags) != many:
        raise BadNet("too many or too few bags")
    for bag in bags:
        if len(bag) != width:
            raise BadNet("too many or too few numbers in a bag")
        for number in bag:
            if not 0 <= number <= MOST_BEADS:
                raise BadNet("a number out of bounds")


def bowl_at(net, name):
    return place_of(net.bowls, name)


def door_at(net, name):
    return place_of(net.doors, name)


def place_of(names, name):
    if name in names:
        return names.index(name)
    return -1


def gain(net, door):
    return less(net.gives[door], net.takes[door])
