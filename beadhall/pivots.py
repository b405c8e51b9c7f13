"""The best point of a choice with the weights that show it, or a ray where points are worth as much as one likes.

Each row gets a place of its own behind the told ones, its slack: what it still has room for. The lines of a sheet
say the same as the rows with their slacks and rooms, all times one whole number above nought, the part. Each line
has a base, a place where it has the part and the other lines have nought; the point of a sheet has numbers at bases
alone. So taken, all numbers of a sheet are determinants of numbers of the rows, rooms and costs: whole, and not long.
"""

from beadhall.bags import less
from beadhall.bags import lowered
from beadhall.bags import times
from beadhall.clearing import unit


class Sheet:
    def __init__(self, rows, rooms, costs):
        slacks = len(rows)
        self.lines = [list(row) + unit(place, slacks) + [rooms[place]] for place, row in enumerate(rows)]
        self.bases = [len(costs) + place for place in range(slacks)]
        self.worth = times(-1, costs) + [0] * (slacks + 1)
        self.part = 1


def best_point(rows, rooms, costs):
    sheet = Sheet(rows, rooms, costs)
    place = first_that_pays(sheet)
    while place >= 0:
        line = first_that_stops(sheet, place)
        if line < 0:
            return ("ray", ray_along(sheet, place, len(costs)))
        turn(sheet, line, place)
        place = first_that_pays(sheet)
    return best_of(sheet, len(costs))


# The first place, and in a draw the line with the first base: so no sheet ever comes back,
# though the point may stay the same for many turns.
def first_that_pays(sheet):
    for place, number in enumerate(sheet.worth[:-1]):
        if number < 0:
            return place
    return -1


# The line whose room is used up first where the number at the place grows, -1 where it may grow without end.
def first_that_stops(sheet, place):
    chosen = -1
    for line in range(len(sheet.lines)):
        if sheet.lines[line][place] > 0 and (chosen < 0 or stops_ahead(sheet, place, line, chosen)):
            chosen = line
    return chosen


def stops_ahead(sheet, place, line, chosen):
    one = sheet.lines[line][-1] * sheet.lines[chosen][place]
    other = sheet.lines[chosen][-1] * sheet.lines[line][place]
    return one < other or (one == other and sheet.bases[line] < sheet.bases[chosen])


# The place becomes the base of the chosen line.
def turn(sheet, chosen, place):
    line = sheet.lines[chosen]
    part = sheet.part
    sheet.lines = [
        other if number == chosen else freed(other, line, place, part) for number, other in enumerate(sheet.lines)]
    sheet.worth = freed(sheet.worth, line, place, part)
    sheet.bases[chosen] = place
    sheet.part = line[place]


# The division leaves no rest; the numbers would grow twice as long with each turn without it.
def freed(other, line, place, part):
    return [number // part for number in less(times(line[place], other), times(other[place], line))]


def ray_along(sheet, place, width):
    ray = times(sheet.part, unit(place, width))
    for line, base in zip(sheet.lines, sheet.bases):
        if base < width:
            ray[base] = -line[place]
    return lowered(ray)


# What the slacks would cost is what the rooms are worth: the weights.
def best_of(sheet, width):
    point = [0] * width
    for line, base in zip(sheet.lines, sheet.bases):
        if base < width:
            point[base] = line[-1]
    point = lowered(point + [sheet.part])
    weights = lowered(sheet.worth[width:-1] + [sheet.part])
    return ("best", point[:-1], point[-1], weights[:-1], weights[-1])
