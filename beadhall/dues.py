"""Prices, by which no door gains, and growing tallies, by which a bowl holds more each time."""

from beadhall.bags import lowered
from beadhall.bags import plus
from beadhall.bags import times
from beadhall.bags import weighed
from beadhall.blocks import block_need
from beadhall.clearing import unit
from beadhall.goings import tally_gain
from beadhall.pivots import best_point
from beadhall.sums import column
from beadhall.sums import gains


def is_price(net, weights, bowl):
    return min(weights) >= 0 and weights[bowl] > 0 and never_rises(net, weights)


# What the weights weigh becomes no more, whatever doors go.
def never_rises(net, weights):
    return all([weighed(weights, row) <= 0 for row in gains(net)])


def ceiling_of(net, weights, bowl):
    return weighed(weights, net.first) // weights[bowl]


def is_growing(net, tally, bowl):
    gained = tally_gain(net, tally)
    return min(tally, default=0) >= 0 and min(gained) >= 0 and gained[bowl] > 0


# A choice of tallies: each bowl may lose what it holds at first, and what the told bowl gains is worth something.
# The weights of its best point are a price but for what the bowl's own beads cost, and that is the scale.
def price_or_tally(net, bowl):
    rows = gains(net)
    losses = [times(-1, column(rows, other)) for other in range(len(net.bowls))]
    found = best_point(losses, net.first, column(rows, bowl))
    if found[0] == "ray":
        return ("grow", found[1])
    share = found[1]
    part = found[2]
    price = plus(found[3], times(found[4], unit(bowl, len(net.bowls))))
    return ("price", lowered(price), share, part)


def seed_of(net, tally):
    return block_need(net, [(many, [door]) for door, many in enumerate(tally)])


# Of prices for the single bowls, all together are a price of all.
def price_of_all(net):
    weights = [0] * len(net.bowls)
    for bowl in range(len(net.bowls)):
        found = price_or_tally(net, bowl)
        if found[0] == "grow":
            return ("grow", bowl, found[1])
        weights = plus(weights, found[1])
    return ("price", lowered(weights))
