"""The hall: answers to asks, each with a paper that shows it, or open where none of its ways settles the ask."""

from beadhall.blocks import packed
from beadhall.branches import pump
from beadhall.dues import ceiling_of
from beadhall.dues import price_or_tally
from beadhall.errors import TooWide
from beadhall.marks import under
from beadhall.rooms import roomed
from beadhall.rooms import run_to
from beadhall.stoppers import kept_reasons
from beadhall.stoppers import stuck_at
from beadhall.sums import accounted
from beadhall.sums import column
from beadhall.traps import greatest_pit
from beadhall.traps import greatest_trap
from beadhall.traps import lies_in
from beadhall.tree import fence
from beadhall.tree import grown
from beadhall.tree import way_to
from beadhall.wants import wants
from beadhall.wants import way_from

MOST_NODES = 60
MOST_WANTS = 60
MOST_ROOMS = 100


def answered(net, ask):
    return ANSWERERS[ask[0]](net, ask)


# The three below tell None where there are too many.
def few_nodes(net):
    try:
        return grown(net, MOST_NODES)
    except TooWide:
        return None


def few_wants(net, goal):
    try:
        return wants(net, goal, MOST_WANTS)
    except TooWide:
        return None


def few_rooms(net):
    try:
        return roomed(net, MOST_ROOMS)
    except TooWide:
        return None


def answer_cover(net, ask):
    goal = ask[1]
    weights = price_too_high(net, goal)
    if weights is not None:
        return ("no", ("fall", weights))
    found = few_wants(net, goal)
    if found is not None:
        return cover_by_wants(net, found)
    tree = few_nodes(net)
    if tree is not None:
        return cover_by_tree(tree, goal)
    return ("open", None)


# A price by whose ceiling some bowl never holds as many as the goal has there, None where there is none.
def price_too_high(net, goal):
    for bowl, wanted in enumerate(goal):
        found = price_or_tally(net, bowl)
        if found[0] == "price" and wanted > ceiling_of(net, found[1], bowl):
            return found[1]
    return None


def cover_by_wants(net, found):
    doors = way_from(found, net.first)
    if doors is None:
        return ("no", ("wants", found.bags))
    return ("yes", ("run", packed(doors)))


def cover_by_tree(tree, goal):
    for node, mark in enumerate(tree.marks):
        if under(goal, mark):
            return ("yes", ("branch", way_to(tree, node)))
    return ("no", ("fence", fence(tree)))


# The door may go just where the beads that it takes are covered.
def answer_ever(net, ask):
    return answer_cover(net, ("cover", net.takes[ask[1]]))


def answer_most(net, ask):
    tree = few_nodes(net)
    if tree is not None:
        return most_by_tree(net, tree, ask[1])
    found = few_rooms(net)
    if found is not None:
        return most_by_rooms(found, ask[1])
    return ("open", None)


def most_by_tree(net, tree, bowl):
    numbers = column(tree.marks, bowl)
    if None in numbers:
        return ("endless", ("branch", way_to(tree, numbers.index(None))))
    most = max(numbers)
    blocks = pump(net, way_to(tree, numbers.index(most)), 0)
    return (most, ("most", blocks, ("fence", fence(tree))))


def most_by_rooms(found, bowl):
    numbers = column(found.bags, bowl)
    most = max(numbers)
    return (most, ("most", run_blocks(found, numbers.index(most)), ("room", found.bags)))


def run_blocks(found, number):
    return packed(run_to(found, number))


def answer_stick(net, ask):
    found = few_rooms(net)
    if found is not None:
        return stick_by_rooms(net, found)
    reasons = kept_reasons(net)
    if None not in reasons:
        return ("no", ("kept", reasons))
    return ("open", None)


def stick_by_rooms(net, found):
    for number, beads in enumerate(found.bags):
        if stuck_at(net, beads):
            return ("yes", ("run", run_blocks(found, number)))
    return ("no", ("room", found.bags))


def answer_reach(net, ask):
    found = few_rooms(net)
    if found is not None:
        return reach_by_rooms(found, ask[1])
    covered = answer_cover(net, ask)
    if covered[0] == "no":
        return covered
    paper = paper_apart(net, ask[1])
    if paper is not None:
        return ("no", paper)
    return ("open", None)


def reach_by_rooms(found, beads):
    if beads in found.bags:
        return ("yes", ("run", run_blocks(found, found.bags.index(beads))))
    return ("no", ("room", found.bags))


# A sum, a pit or a trap by which there are never just these beads, None where there is none.
def paper_apart(net, beads):
    told = accounted(net, beads)
    if told[0] == "sum":
        return told
    pit = greatest_pit(net, without_beads(net.first))[0]
    if lies_in(beads, pit):
        return ("dry", pit)
    trap = greatest_trap(net, without_beads(beads))[0]
    if lies_in(net.first, trap):
        return ("wet", trap)
    return None


def without_beads(beads):
    return [bowl for bowl, count in enumerate(beads) if count == 0]


ANSWERERS = {
    "cover": answer_cover,
    "reach": answer_reach,
    "most": answer_most,
    "stick": answer_stick,
    "ever": answer_ever,
}
