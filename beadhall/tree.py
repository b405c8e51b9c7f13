"""The tree of a net: marks under which the beads behind every run lie."""

from beadhall.errors import TooWide
from beadhall.marks import mark_after
from beadhall.marks import may_mark
from beadhall.marks import peak_marks
from beadhall.marks import raised
from beadhall.marks import under


class Tree:
    def __init__(self, first):
        self.marks = [list(first)]
        self.parents = [-1]
        self.comers = [-1]
        self.loops = [[]]
        self.above = []


def grown(net, room):
    tree = Tree(net.first)
    node = 0
    while node < len(tree.marks):
        look_at(net, tree, node, room)
        node = node + 1
    return tree


def look_at(net, tree, node, room):
    tree.above.append(first_above(tree, node))
    if tree.above[node] >= 0:
        return
    for door in range(len(net.doors)):
        if may_mark(net, tree.marks[node], door):
            put_node(tree, node, door, mark_after(net, tree.marks[node], door), room)


def first_above(tree, node):
    for other in range(node):
        if under(tree.marks[node], tree.marks[other]):
            return other
    return -1


def put_node(tree, parent, door, mark, room):
    if len(tree.marks) >= room:
        raise TooWide("more nodes than there is room for")
    loops = []
    for ancestor in upward(tree, parent):
        endless = raised(tree.marks[ancestor], mark)
        if endless is not None:
            mark = endless
            loops.append(ancestor)
    tree.marks.append(mark)
    tree.parents.append(parent)
    tree.comers.append(door)
    tree.loops.append(loops)


# The node, its parent and so on, up to node 0.
def upward(tree, node):
    nodes = []
    while node >= 0:
        nodes.append(node)
        node = tree.parents[node]
    return nodes


def way_to(tree, node):
    nodes = list(reversed(upward(tree, node)))
    return [(tree.comers[one], [nodes.index(loop) for loop in tree.loops[one]]) for one in nodes[1:]]


def fence(tree):
    return peak_marks(tree.marks)
