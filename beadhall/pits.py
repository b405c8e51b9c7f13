"""Least pits and least stoppers of a net, found among all sets of its bowls."""

from beadhall.traps import is_pit
from beadhall.traps import takes_from


def least_pits(net):
    return least_ones([bowls for bowls in all_sets(net) if bowls != [] and is_pit(net, bowls)])


def least_stoppers(net):
    return least_ones([bowls for bowls in all_sets(net) if is_stopper(net, bowls)])


def is_stopper(net, bowls):
    return all([takes_from(net, door, bowls) for door in range(len(net.doors))])


# Those with fewer bowls first, and of those with as many bowls the one with the lesser bowl where they differ.
def all_sets(net):
    found = [[]]
    for bowl in range(len(net.bowls)):
        found = found + [bowls + [bowl] for bowls in found]
    return sorted(found, key=lambda bowls: (len(bowls), bowls))


# What lies within a set has fewer bowls, so it comes ahead of it.
def least_ones(found):
    least = []
    for bowls in found:
        if not any([is_within(inner, bowls) for inner in least]):
            least.append(bowls)
    return least


def is_within(inner, bowls):
    return all([bowl in bowls for bowl in inner])
