"""Tables cleared: their lines with the makings of these, and their weighings.

A row is kept together with its making, behind it in one bag: what is done to the row is then done to its making,
and the rows of the table, each times its number of the making, add up to the row all the while.
"""

from beadhall.bags import less
from beadhall.bags import lowered
from beadhall.bags import times


def cleared(rows, width):
    left = with_makings(rows)
    lines = []
    for place in range(width):
        chosen = place_of_first(left, place)
        if chosen >= 0:
            line = upright(left.pop(chosen), place)
            left = [freed(other, line, place) for other in left]
            lines = [(pivot, freed(other, line, place)) for pivot, other in lines]
            lines.append((place, line))
    return [(pivot, lowered(line[:width]), line[width:]) for pivot, line in lines]


def with_makings(rows):
    return [list(row) + unit(place, len(rows)) for place, row in enumerate(rows)]


def unit(place, width):
    return [1 if other == place else 0 for other in range(width)]


# The first of the rows whose number at the place isn't nought, -1 where there is none.
def place_of_first(rows, place):
    for chosen, row in enumerate(rows):
        if row[place] != 0:
            return chosen
    return -1


def upright(row, place):
    return times(-1, row) if row[place] < 0 else row


# Lowered each time, as the numbers would grow twice as long with each line otherwise.
def freed(row, line, place):
    return lowered(less(times(line[place], row), times(row[place], line)))


def weighings(rows, width):
    lines = cleared(rows, width)
    pivots = [pivot for pivot, line, making in lines]
    return [(place, weighing(lines, width, place)) for place in range(width) if place not in pivots]


# Each line has numbers at its own pivot and at free places alone, so what the free place
# brings to it is made up for at that pivot.
def weighing(lines, width, place):
    scale = 1
    for pivot, line, making in lines:
        scale = scale * line[pivot]
    weights = times(scale, unit(place, width))
    for pivot, line, making in lines:
        weights[pivot] = -line[place] * (scale // line[pivot])
    return lowered(weights)
