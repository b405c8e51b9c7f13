"""Blocks: pairs `(many, doors)`, each a row of doors that goes many times over without being walked."""

from beadhall.bags import beneath
from beadhall.bags import higher
from beadhall.bags import less
from beadhall.bags import plus
from beadhall.bags import times
from beadhall.errors import NoGo
from beadhall.errors import TooWide
from beadhall.goings import gain_of
from beadhall.goings import need_ahead
from beadhall.goings import need_of


def block_gain(net, blocks):
    gained = [0] * len(net.bowls)
    for block in blocks:
        gained = plus(gained, gain_of_one(net, block))
    return gained


def block_need(net, blocks):
    need = [0] * len(net.bowls)
    for block in reversed(blocks):
        need = need_ahead(need_of_one(net, block), gain_of_one(net, block), need)
    return need


def block_after(net, beads, blocks):
    left = list(beads)
    for place, block in enumerate(blocks):
        if not beneath(need_of_one(net, block), left):
            raise NoGo("a block in which a door may not go", place)
        left = plus(left, gain_of_one(net, block))
    return left


def gain_of_one(net, block):
    return times(block[0], gain_of(net, block[1]))


# A bowl that the row gains in is at its lowest the first time, one that it loses in the last time.
def need_of_one(net, block):
    if block[0] == 0:
        return [0] * len(net.bowls)
    need = need_of(net, block[1])
    gained_ahead = times(block[0] - 1, gain_of(net, block[1]))
    return higher(need, less(need, gained_ahead))


def spread(blocks, most):
    if sum([many * len(doors) for many, doors in blocks]) > most:
        raise TooWide("more doors than were told")
    row = []
    for many, doors in blocks:
        # A list can't be told over as often as a block of no doors may be.
        if doors != []:
            row.extend(doors * many)
    return row


def packed(doors):
    blocks = []
    for door in doors:
        many = 1
        if blocks != [] and blocks[-1][1] == [door]:
            many = blocks.pop()[0] + 1
        blocks.append((many, [door]))
    return blocks
