"""[6.5], [6.6], [6.7], [6.8], and [0.2] and [0.4] for trees."""

import unittest

from beadhall.branches import branch_marks
from beadhall.errors import HallError, TooWide
from beadhall.marks import peak_marks
from beadhall.tree import Tree, fence, grown, way_to

from common import Draw, check_copied, check_kinds, check_own, content, met_by_runs, net_of

MILL = net_of([1, 0, 0], [
    ([1, 0, 0], [1, 1, 0]),
    ([0, 1, 0], [0, 0, 2]),
    ([0, 0, 3], [1, 0, 0])])
SWING = net_of([0, 1], [([0, 1], [1, 0]), ([1, 0], [0, 1]), ([0, 0], [0, 1])])
BARE = net_of([4, 0], [])


def lies_under(low, high):
    return all(other is None or (one is not None and one <= other) for one, other in zip(low, high))


def tree_of(net, room):
    """The tree as the document tells it, with a dict for each node; None where there is too little room."""
    nodes = [{"mark": list(net.first), "parent": -1, "comer": -1, "loops": [], "above": -1}]
    for number, node in enumerate(nodes):
        for other in range(number - 1, -1, -1):
            if lies_under(node["mark"], nodes[other]["mark"]):
                node["above"] = other
        if node["above"] != -1:
            continue
        for door, (takes, gives) in enumerate(zip(net.takes, net.gives)):
            if lies_under(takes, node["mark"]):
                mark = [
                    None if has is None else has - takes[bowl] + gives[bowl]
                    for bowl, has in enumerate(node["mark"])]
                loops = []
                ancestor = number
                while ancestor != -1:
                    low = nodes[ancestor]["mark"]
                    unlike = [bowl for bowl in range(len(mark)) if None not in (low[bowl], mark[bowl])
                              and low[bowl] != mark[bowl]]
                    if lies_under(low, mark) and unlike:
                        mark = [None if bowl in unlike else has for bowl, has in enumerate(mark)]
                        loops.append(ancestor)
                    ancestor = nodes[ancestor]["parent"]
                if len(nodes) == room:
                    return None
                nodes.append({"mark": mark, "parent": number, "comer": door, "loops": loops, "above": -1})
    return {
        "marks": [node["mark"] for node in nodes], "parents": [node["parent"] for node in nodes],
        "comers": [node["comer"] for node in nodes], "loops": [node["loops"] for node in nodes],
        "above": [node["above"] for node in nodes]}


def drawn_nets(seed, many):
    draw = Draw(seed)
    for _ in range(many):
        yield draw.net(draw.number(1, 3), draw.number(0, 3), draw.number(1, 3))
        yield draw.moving_net(draw.number(2, 4), draw.number(1, 3), draw.number(1, 2))


def grown_nets(seed, many):
    """Nets whose tree is not too wide, and their trees."""
    found = []
    for net in drawn_nets(seed, many):
        if tree_of(net, 60) is not None:
            found.append((net, grown(net, 60)))
    return found


def values(tree):
    return {
        "marks": tree.marks, "parents": tree.parents, "comers": tree.comers, "loops": tree.loops,
        "above": tree.above}


class GrownTest(unittest.TestCase):
    def refused(self, net, room):
        with self.assertRaises(TooWide) as caught:
            grown(net, room)
        self.assertIsInstance(caught.exception, HallError)

    def test_no_door(self):
        for room in (1, 200):
            self.assertEqual(values(grown(BARE, room)), {
                "marks": [[4, 0]], "parents": [-1], "comers": [-1], "loops": [[]], "above": [-1]})

    def test_no_door_that_may_go(self):
        self.assertEqual(values(grown(net_of([1], [([2], [5])]), 1)), {
            "marks": [[1]], "parents": [-1], "comers": [-1], "loops": [[]], "above": [-1]})

    def test_doors_that_change_nothing(self):
        self.assertEqual(values(grown(net_of([1], [([1], [1]), ([0], [0])]), 3)), {
            "marks": [[1], [1], [1]], "parents": [-1, 0, 0], "comers": [-1, 0, 1], "loops": [[], [], []],
            "above": [-1, 0, 0]})

    def test_the_mill(self):
        self.assertEqual(values(grown(MILL, 10)), {
            "marks": [
                [1, 0, 0], [1, None, 0], [1, None, 0], [1, None, None], [1, None, None], [1, None, None],
                [None, None, None], [None, None, None], [None, None, None], [None, None, None]],
            "parents": [-1, 0, 1, 1, 3, 3, 3, 6, 6, 6],
            "comers": [-1, 0, 0, 1, 0, 1, 2, 0, 1, 2],
            "loops": [[], [0], [], [1], [], [], [3], [], [], []],
            "above": [-1, -1, 1, -1, 3, 3, -1, 6, 6, 6]})

    def test_loops_in_the_order_in_which_they_were_taken(self):
        self.assertEqual(values(grown(SWING, 10)), {
            "marks": [
                [0, 1], [1, 0], [0, None], [0, 1], [None, None], [None, None], [0, None],
                [None, None], [None, None], [None, None]],
            "parents": [-1, 0, 0, 1, 1, 2, 2, 4, 4, 4],
            "comers": [-1, 0, 2, 1, 2, 0, 2, 0, 1, 2],
            "loops": [[], [], [0], [], [1, 0], [2], [], [], [], []],
            "above": [-1, -1, -1, 0, -1, 4, 2, 4, 4, 4]})

    def test_runs_down(self):
        self.assertEqual(values(grown(net_of([2, 0], [([1, 0], [0, 0]), ([1, 0], [0, 3])]), 7)), {
            "marks": [[2, 0], [1, 0], [1, 3], [0, 3], [0, 6]],
            "parents": [-1, 0, 0, 2, 2], "comers": [-1, 0, 1, 0, 1], "loops": [[]] * 5,
            "above": [-1, 0, -1, 2, -1]})

    def test_shut_by_a_node_that_is_no_ancestor(self):
        # The first beads may go to either bowl, and on from each to the same beads in the third.
        net = net_of([1, 0, 0, 0], [
            ([1, 0, 0, 0], [0, 1, 0, 0]), ([1, 0, 0, 0], [0, 0, 1, 0]),
            ([0, 1, 0, 0], [0, 0, 0, 1]), ([0, 0, 1, 0], [0, 0, 0, 1])])
        tree = grown(net, 5)
        self.assertEqual(tree.parents, [-1, 0, 0, 1, 2])
        self.assertEqual(tree.above, [-1, -1, -1, -1, 3])

    def test_the_least_number_is_told(self):
        tree = grown(net_of([1], [([1], [1]), ([1], [1]), ([1], [1])]), 4)
        self.assertEqual(tree.above, [-1, 0, 0, 0])

    def test_drawn_nets(self):
        two = 0
        for net in list(drawn_nets(131, 300)) + [MILL, SWING]:
            wanted = tree_of(net, 60)
            if wanted is None:
                self.refused(net, 60)
            else:
                self.assertEqual(values(grown(net, 60)), wanted)
                two += max(len(loops) for loops in wanted["loops"]) > 1
        self.assertGreater(two, 3)

    def test_just_so_many_nodes_and_one_less(self):
        for net, tree in grown_nets(132, 40):
            many = len(tree.marks)
            self.assertEqual(values(grown(net, many)), values(tree))
            self.assertEqual(values(grown(net, 200)), values(tree))
            if many > 1:
                self.refused(net, many - 1)
                self.refused(net, 1)

    def test_the_greatest_room(self):
        # One node for each number of beads from a hundred and ninety-nine down to none.
        tree = grown(net_of([199], [([1], [0])]), 200)
        self.assertEqual(len(tree.marks), 2)
        tree = grown(net_of([0, 199], [([0, 1], [1, 0])]), 200)
        self.assertEqual(tree.marks, [[number, 199 - number] for number in range(200)])
        self.refused(net_of([0, 200], [([0, 1], [1, 0])]), 200)

    def test_great_numbers(self):
        most = 10 ** 9
        tree = grown(net_of([most, 0], [([most, 0], [0, most]), ([0, most], [most, 1])]), 20)
        self.assertEqual(tree.marks[:3], [[most, 0], [0, most], [most, None]])


class WayTest(unittest.TestCase):
    def test_node_0(self):
        for net in (MILL, SWING, BARE):
            self.assertEqual(way_to(grown(net, 60), 0), [])

    def test_the_mill(self):
        tree = grown(MILL, 60)
        self.assertEqual(way_to(tree, 2), [(0, [0]), (0, [])])
        self.assertEqual(way_to(tree, 4), [(0, [0]), (1, [1]), (0, [])])
        self.assertEqual(way_to(tree, 9), [(0, [0]), (1, [1]), (2, [2]), (2, [])])

    def test_loops_as_points(self):
        # Node 4 of this tree is at point 2, and its loops are nodes 1 and 0.
        tree = grown(SWING, 60)
        self.assertEqual(way_to(tree, 4), [(0, []), (2, [1, 0])])

    def test_ways_of_drawn_nets(self):
        for net, tree in grown_nets(133, 200) + [(MILL, grown(MILL, 60)), (SWING, grown(SWING, 60))]:
            for node in range(len(tree.marks)):
                nodes = [node]
                while nodes[0] != 0:
                    nodes.insert(0, tree.parents[nodes[0]])
                branch = way_to(tree, node)
                self.assertEqual(branch_marks(net, branch), [tree.marks[one] for one in nodes])
                self.assertEqual([door for door, loops in branch], [tree.comers[one] for one in nodes[1:]])
                self.assertEqual(
                    [[nodes[point] for point in loops] for door, loops in branch],
                    [tree.loops[one] for one in nodes[1:]])


class FenceTest(unittest.TestCase):
    def test_fences(self):
        self.assertEqual(fence(grown(BARE, 1)), [[4, 0]])
        self.assertEqual(fence(grown(MILL, 60)), [[None, None, None]])
        self.assertEqual(fence(grown(net_of([2, 0], [([1, 0], [0, 0]), ([1, 0], [0, 3])]), 7)), [
            [2, 0], [1, 3], [0, 6]])

    def test_in_the_order_of_the_nodes(self):
        for net, tree in grown_nets(134, 200):
            self.assertEqual(fence(tree), peak_marks(tree.marks))

    def test_runs_stay_under_the_fence(self):
        several = 0
        for net, tree in grown_nets(135, 150):
            marks = fence(tree)
            several += len(marks) > 1
            for beads in met_by_runs(net, 150):
                self.assertTrue(any(lies_under(beads, mark) for mark in marks))
        self.assertGreater(several, 10)


class OwnTest(unittest.TestCase):
    def test_what_is_told_is_the_askers_own(self):
        for net in (MILL, SWING, BARE):
            check_own(self, grown, net, 60)
            tree = grown(net, 60)
            check_own(self, fence, tree)
            for node in range(len(tree.marks)):
                check_own(self, way_to, tree, node)

    def test_the_net_is_not_kept(self):
        net = net_of([1, 0], [([1, 0], [1, 1])])
        check_copied(self, lambda one: lambda tree=grown(one, 60): (content(tree), way_to(tree, 1), fence(tree)), net)

    def test_kinds(self):
        tree = grown(MILL, 60)
        self.assertIsInstance(tree, Tree)
        for told in (tree.marks, tree.parents, tree.comers, tree.loops, tree.above, way_to(tree, 3), fence(tree)):
            self.assertIs(type(told), list)
            check_kinds(self, told)
        for told in tree.marks + tree.loops + fence(tree):
            self.assertIs(type(told), list)
        for pair in way_to(tree, 3):
            self.assertEqual((type(pair), [type(thing) for thing in pair]), (tuple, [int, list]))

    def test_arguments_have_their_names(self):
        tree = grown(net=MILL, room=10)
        self.assertEqual(way_to(tree=tree, node=1), [(0, [0])])
        self.assertEqual(fence(tree=tree), [[None, None, None]])


if __name__ == "__main__":
    unittest.main()
