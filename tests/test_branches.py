"""[6.3], [6.4], and [0.2] and [0.4] for branches."""

import unittest

from beadhall.blocks import block_after, spread
from beadhall.branches import branch_marks, pump
from beadhall.goings import walked
from beadhall.marks import mark_after, may_mark, raised

from common import Draw, at_of, check_kinds, check_own, net_of

GREAT = 10 ** 200 - 1

# One door makes beads in the second bowl, the next makes two in the third of one of the second,
# and the last takes three of the third for one in the first.
MILL = net_of([1, 0, 0], [
    ([1, 0, 0], [1, 1, 0]),
    ([0, 1, 0], [0, 0, 2]),
    ([0, 0, 3], [1, 0, 0])])
MAKE, TURN, BACK = range(3)

# Two doors that go to and fro, and one that gives to the second bowl.
SWING = net_of([0, 1], [([0, 1], [1, 0]), ([1, 0], [0, 1]), ([0, 0], [0, 1])])


def marks_of(net, branch):
    """The marks of the points of a branch that isn't to be refused."""
    marks = [list(net.first)]
    for door, loops in branch:
        mark = [
            None if number is None else number - net.takes[door][bowl] + net.gives[door][bowl]
            for bowl, number in enumerate(marks[-1])]
        for point in loops:
            mark = [None if number != marks[point][bowl] else number for bowl, number in enumerate(mark)]
        marks.append(mark)
    return marks


def drawn_branch(draw, net, length):
    """A branch that goes on where doors may go, with loops wherever the dice want them and they may be."""
    marks = [list(net.first)]
    branch = []
    for _ in range(length):
        doors = [door for door in range(len(net.doors)) if may_mark(net, marks[-1], door)]
        if doors:
            door = doors[draw.number(0, len(doors) - 1)]
            mark = mark_after(net, marks[-1], door)
            loops = []
            for _ in range(draw.number(0, 9)):
                point = draw.number(0, len(marks) - 1)
                if raised(marks[point], mark) is not None:
                    mark = raised(marks[point], mark)
                    loops.append(point)
            marks.append(mark)
            branch.append((door, loops))
    return branch


class MarksTest(unittest.TestCase):
    def test_the_empty_branch(self):
        self.assertEqual(branch_marks(MILL, []), [[1, 0, 0]])
        self.assertEqual(branch_marks(net_of([7], []), []), [[7]])

    def test_pairs_without_loops(self):
        self.assertEqual(branch_marks(MILL, [(MAKE, []), (MAKE, []), (TURN, [])]), [
            [1, 0, 0], [1, 1, 0], [1, 2, 0], [1, 1, 2]])

    def test_pairs_with_loops(self):
        self.assertEqual(branch_marks(MILL, [(MAKE, [0]), (TURN, [1]), (BACK, [2]), (MAKE, [])]), [
            [1, 0, 0], [1, None, 0], [1, None, None], [None, None, None], [None, None, None]])
        self.assertEqual(branch_marks(MILL, [(MAKE, []), (MAKE, [1])]), [[1, 0, 0], [1, 1, 0], [1, None, 0]])

    def test_the_pairs_own_point_ahead_may_be_a_loop(self):
        self.assertEqual(branch_marks(SWING, [(0, []), (2, [1])])[-1], [1, None])

    def test_several_loops_in_their_order(self):
        self.assertEqual(branch_marks(SWING, [(0, []), (2, [1, 0])]), [[0, 1], [1, 0], [None, None]])
        self.assertEqual(branch_marks(SWING, [(0, []), (2, [0])])[-1], [None, 1])
        # Behind the first loop the other one still has two numbers that are unlike at one place alone.
        self.assertEqual(branch_marks(SWING, [(0, []), (2, [0, 1])])[-1], [None, None])

    def test_a_loop_that_the_loops_ahead_make_none_of(self):
        net = net_of([0], [([0], [1])])
        self.assertEqual(at_of(self, branch_marks, net, [(0, []), (0, [0, 1])]), 1)
        self.assertEqual(branch_marks(net, [(0, []), (0, [0])])[-1], [None])
        self.assertEqual(branch_marks(net, [(0, []), (0, [1])])[-1], [None])

    def test_the_same_point_among_the_loops_of_several_pairs(self):
        net = net_of([0, 0], [([0, 0], [1, 0]), ([0, 0], [0, 1])])
        self.assertEqual(branch_marks(net, [(0, [0]), (1, [0])]), [[0, 0], [None, 0], [None, None]])
        self.assertEqual(branch_marks(MILL, [(MAKE, [0]), (TURN, [0])])[-1], [1, None, None])

    def test_drawn_branches(self):
        draw = Draw(121)
        loops = 0
        for _ in range(300):
            net = draw.moving_net(4, 4, 2)
            branch = drawn_branch(draw, net, 12)
            self.assertEqual(branch_marks(net, branch), marks_of(net, branch))
            loops += max([len(pair[1]) for pair in branch], default=0) > 1
        self.assertGreater(loops, 10)


class RefusedTest(unittest.TestCase):
    def refused(self, net, branch, place):
        self.assertEqual(at_of(self, branch_marks, net, branch), place)
        for many in (0, 5):
            self.assertEqual(at_of(self, pump, net, branch, many), place)

    def test_a_door_that_may_not_go(self):
        self.refused(MILL, [(TURN, [])], 0)
        self.refused(MILL, [(TURN, []), (MAKE, [])], 0)
        self.refused(MILL, [(MAKE, []), (BACK, []), (MAKE, [])], 1)
        self.refused(MILL, [(MAKE, [0]), (TURN, []), (TURN, []), (BACK, []), (BACK, [])], 4)

    def test_a_loop_that_is_no_point_ahead(self):
        self.refused(MILL, [(MAKE, [1])], 0)
        self.refused(MILL, [(MAKE, [-1])], 0)
        self.refused(MILL, [(MAKE, [2]), (MAKE, [])], 0)
        self.refused(MILL, [(MAKE, []), (MAKE, [2]), (MAKE, [])], 1)
        self.refused(MILL, [(MAKE, []), (MAKE, [-1]), (MAKE, [])], 1)
        self.refused(MILL, [(MAKE, []), (MAKE, []), (MAKE, [3])], 2)
        self.refused(MILL, [(MAKE, []), (MAKE, []), (MAKE, [10 ** 200])], 2)

    def test_a_loop_whose_mark_is_not_as_told(self):
        # The same mark, one that isn't under the mark, and one whose only other place is None already.
        self.refused(net_of([1], [([1], [1])]), [(0, [0])], 0)
        self.refused(SWING, [(0, [0]), (1, [])], 0)
        self.refused(SWING, [(0, []), (1, [0]), (0, [])], 1)
        self.refused(SWING, [(0, []), (1, [1]), (0, [])], 1)
        self.refused(MILL, [(MAKE, [0]), (MAKE, [0])], 1)
        self.refused(MILL, [(MAKE, [0]), (MAKE, [1]), (MAKE, [])], 1)
        self.refused(MILL, [(MAKE, [0, 0])], 0)
        self.refused(MILL, [(MAKE, []), (MAKE, []), (TURN, [2])], 2)

    def test_none_lies_under_none_alone(self):
        net = net_of([0, 0], [([0, 0], [1, 0]), ([0, 0], [0, 1])])
        self.refused(net, [(0, []), (0, [0]), (1, [2, 1])], 2)

    def test_the_first_of_several(self):
        self.refused(MILL, [(MAKE, []), (MAKE, [5]), (BACK, []), (TURN, [7])], 1)
        self.refused(MILL, [(MAKE, []), (BACK, [5]), (MAKE, [5])], 1)


class PumpTest(unittest.TestCase):
    def check(self, net, branch, many):
        blocks = pump(net, branch, many)
        beads = block_after(net, net.first, blocks)
        for number, held in zip(branch_marks(net, branch)[-1], beads):
            if number is None:
                self.assertGreaterEqual(held, many)
            else:
                self.assertEqual(held, number)
        for often, doors in blocks:
            self.assertGreaterEqual(often, 0)
            self.assertLess(often, 10 ** 1000)
        return blocks

    def test_the_empty_branch(self):
        self.assertEqual(block_after(MILL, MILL.first, pump(MILL, [], 7)), MILL.first)
        self.check(net_of([7], []), [], GREAT)

    def test_without_loops(self):
        for many in (0, 1, GREAT):
            self.check(MILL, [(MAKE, []), (MAKE, []), (TURN, [])], many)

    def test_the_mill(self):
        branch = [(MAKE, [0]), (TURN, [1]), (BACK, [2])]
        for length in range(4):
            for many in (0, 1, 2, 10, GREAT):
                self.check(MILL, branch[:length], many)

    def test_walked_through_door_by_door(self):
        for many in range(6):
            blocks = self.check(MILL, [(MAKE, [0]), (TURN, [1]), (BACK, [2]), (TURN, [])], many)
            self.assertGreaterEqual(min(walked(MILL, MILL.first, spread(blocks, 10000))[-1]), many)

    def test_a_loop_that_takes_from_bowls_that_had_none_ahead(self):
        # Each bowl but the first is filled at the cost of a hundred of the one ahead.
        net = net_of([0, 0, 0], [([0, 0, 0], [1, 0, 0]), ([100, 0, 0], [0, 1, 0]), ([7, 100, 0], [0, 0, 1])])
        branch = [(0, [0]), (1, [1]), (2, [2])]
        for many in (0, 1, 3, GREAT):
            blocks = self.check(net, branch, many)
        self.assertGreater(max(often for often, doors in blocks), GREAT * 100 * 100)

    def test_doors_behind_a_loop_that_take_from_what_it_filled(self):
        net = net_of([0, 0], [([0, 0], [2, 0]), ([5, 0], [0, 1])])
        for many in (0, 1, 4, GREAT):
            self.check(net, [(0, [0]), (1, []), (1, []), (1, []), (0, [])], many)

    def test_a_loop_over_pairs_with_loops_of_their_own(self):
        net = net_of([1, 0, 0], [([1, 0, 0], [1, 2, 0]), ([0, 3, 0], [0, 0, 1]), ([0, 1, 1], [0, 0, 3])])
        branch = [(0, []), (0, [0]), (1, []), (2, [1])]
        for many in (0, 1, 5, GREAT):
            self.check(net, branch, many)

    def test_several_loops_of_one_pair(self):
        for branch in ([(0, []), (2, [1, 0])], [(0, []), (2, [0, 1])], [(0, []), (2, [0])], [(0, []), (2, [1])]):
            for many in (0, 1, 5, GREAT):
                self.check(SWING, branch, many)

    def test_gains_that_do_not_divide_what_is_wanted(self):
        net = net_of([2, 1], [([0, 0], [3, 0]), ([3, 0], [0, 7])])
        for many in range(30):
            self.check(net, [(0, [0]), (1, [1])], many)

    def test_beads_that_are_enough_at_first(self):
        net = net_of([50], [([0], [1])])
        for many in (0, 50, 51, 52, 99):
            self.check(net, [(0, [0])], many)

    def test_drawn_branches(self):
        draw = Draw(122)
        endless = 0
        for _ in range(400):
            if draw.number(0, 1):
                net = draw.net(draw.number(1, 4), 4, draw.number(1, 4))
            else:
                net = draw.moving_net(4, 4, 2)
            branch = drawn_branch(draw, net, 12)
            endless += branch_marks(net, branch)[-1].count(None) > 1
            for many in (0, 1, 13, GREAT):
                self.check(net, branch, many)
        self.assertGreater(endless, 60)

    def test_the_greatest_branches(self):
        # Two hundred pairs; each bowl costs as much of the one ahead as a door can take.
        most = 10 ** 9
        doors = [([0] * 6, [1] + [0] * 5)]
        for bowl in range(1, 6):
            takes = [0] * 6
            takes[bowl - 1] = most
            gives = [0] * 6
            gives[bowl] = 1
            doors.append((takes, gives))
        doors.append(([most] * 6, [0] * 6))
        net = net_of([0] * 6, doors)
        loops = [(door, [door]) for door in range(6)]
        self.check(net, loops + [(6, [])] * 194, GREAT)
        slow = [(0, []), (0, [])] * 90
        spun = [(0, [0])] + [(door, [180 + door]) for door in range(1, 6)]
        self.check(net, slow + spun + [(6, [])] * 14, GREAT)


class OwnTest(unittest.TestCase):
    def test_what_is_told_is_the_askers_own(self):
        for branch in ([], [(MAKE, [])], [(MAKE, []), (MAKE, [1]), (TURN, [0]), (MAKE, [])]):
            check_own(self, branch_marks, MILL, branch)
            check_own(self, pump, MILL, branch, 4)
        check_own(self, pump, SWING, [(0, []), (2, [1, 0])], 4)

    def test_all_is_as_it_was_behind_a_refusal(self):
        branch = [(MAKE, [0]), (MAKE, [0])]
        at_of(self, branch_marks, MILL, branch)
        at_of(self, pump, MILL, branch, 3)
        self.assertEqual((branch, MILL.first), ([(MAKE, [0]), (MAKE, [0])], [1, 0, 0]))

    def test_kinds(self):
        branch = [(MAKE, [0]), (TURN, [1])]
        for told in (branch_marks(MILL, branch), pump(MILL, branch, 4)):
            self.assertIs(type(told), list)
            check_kinds(self, told)
        self.assertTrue(all(type(mark) is list for mark in branch_marks(MILL, branch)))
        for block in pump(MILL, branch, 4):
            self.assertEqual((type(block), [type(thing) for thing in block]), (tuple, [int, list]))

    def test_arguments_have_their_names(self):
        self.assertEqual(branch_marks(net=MILL, branch=[(MAKE, [0])]), [[1, 0, 0], [1, None, 0]])
        self.assertEqual(pump(net=MILL, branch=[(MAKE, [0])], many=3), pump(MILL, [(MAKE, [0])], 3))


if __name__ == "__main__":
    unittest.main()
