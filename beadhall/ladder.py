"""Ladders of tables: the rungs with their makings, and the scales that weigh one rung alone.

As in clearing, a row is kept together with its making behind it in one bag.
"""

from beadhall.bags import less
from beadhall.bags import lowered
from beadhall.bags import times
from beadhall.bags import weighed
from beadhall.clearing import unit
from beadhall.clearing import upright
from beadhall.clearing import with_makings


# Row by row, each time a whole ladder of the rows so far: the numbers of a ladder are
# bounded by those of the table, the numbers of rows that are only half done are not.
def ladder(rows, width):
    rungs = {}
    for row in with_makings(rows):
        put_row(rungs, row, width)
        settle(rungs)
    return [(pivot, rungs[pivot][:width], rungs[pivot][width:]) for pivot in sorted(rungs)]


def put_row(rungs, row, width):
    for place in range(width):
        if row[place] != 0 and place not in rungs:
            rungs[place] = upright(row, place)
            return
        if row[place] != 0:
            shared = shared_out(rungs[place], row, place)
            rungs[place] = upright(shared[0], place)
            row = shared[1]


# Two rows with the same steps as the two handed in, the second with nought at the place.
def shared_out(one, other, place):
    while other[place] != 0:
        rest = without(one, other, place)
        one = other
        other = rest
    return (one, other)


# The row less the rung as often as it goes into the number at the place.
def without(row, rung, place):
    return less(row, times(row[place] // rung[place], rung))


def settle(rungs):
    for pivot in sorted(rungs, reverse=True):
        for later in sorted(rungs):
            if later > pivot:
                rungs[pivot] = without(rungs[pivot], rungs[later], later)


def scales(rungs, width):
    return [scale_of(rungs, width, place) for place in range(len(rungs))]


# The rungs behind this one have nought at its pivot and at those ahead; so weights at these alone
# weigh them nought, and are settled for the rungs ahead one by one, from the last one back.
def scale_of(rungs, width, place):
    part = 1
    for pivot, rung, making in rungs[:place + 1]:
        part = part * rung[pivot]
    weights = times(part // rungs[place][1][rungs[place][0]], unit(rungs[place][0], width))
    for pivot, rung, making in reversed(rungs[:place]):
        weights[pivot] = -weighed(weights, rung) // rung[pivot]
    weights = lowered(weights)
    return (weights, weighed(weights, rungs[place][1]))
