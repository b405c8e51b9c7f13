"""What doors can't change: the sums, levers and rounds of a net, and bags that are accounted for or told apart."""

from beadhall.bags import less
from beadhall.bags import plus
from beadhall.bags import refuse_unlike
from beadhall.bags import times
from beadhall.bags import weighed
from beadhall.clearing import cleared
from beadhall.clearing import weighings
from beadhall.ladder import ladder
from beadhall.ladder import scales
from beadhall.nets import gain


def gains(net):
    return [gain(net, door) for door in range(len(net.doors))]


def sums(net):
    return weighings(gains(net), len(net.bowls))


def levers(net):
    return [(bowl, tally) for bowl, line, tally in cleared(gains(net), len(net.bowls))]


def rounds(net):
    rows = gains(net)
    turned = [column(rows, bowl) for bowl in range(len(net.bowls))]
    return weighings(turned, len(net.doors))


def column(rows, place):
    return [row[place] for row in rows]


def unmoved(net, weights, part):
    refuse_unlike(net.bowls, weights)
    return all([is_multiple(weighed(weights, row), part) for row in gains(net)])


# Of the part nought, nought alone is a multiple.
def is_multiple(number, part):
    if part == 0:
        return number == 0
    return number % part == 0


def tells_apart(net, weights, part, bag):
    changed = less(bag, net.first)
    return unmoved(net, weights, part) and not is_multiple(weighed(weights, changed), part)


def accounted(net, bag):
    changed = less(bag, net.first)
    for bowl, weights in sums(net):
        if weighed(weights, changed) != 0:
            return ("sum", weights, 0)
    return by_rungs(ladder(gains(net), len(net.bowls)), changed, len(net.doors))


# Where no sum tells it apart, the bag is made of the rungs, each times a number that its scale tells:
# what the weights weigh the bag, divided by the part. It is made by doors where all these are whole.
def by_rungs(rungs, changed, doors):
    tally = [0] * doors
    for place, scale in enumerate(scales(rungs, len(changed))):
        found = weighed(scale[0], changed)
        if not is_multiple(found, scale[1]):
            return ("sum", scale[0], scale[1])
        tally = plus(tally, times(found // scale[1], rungs[place][2]))
    return ("tally", tally)
