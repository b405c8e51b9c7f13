"""[7.1], [7.2], [7.3], and [0.2] and [0.4] for wants."""

import unittest

from beadhall.bags import beneath
from beadhall.errors import HallError, TooWide
from beadhall.goings import after, may, walked
from beadhall.wants import Wants, least_ahead, wants, way_from

from common import Draw, box, check_copied, check_kinds, check_own, content, net_of

GREAT = 10 ** 900

BARE = net_of([4, 0], [])
# Two of the first bowl for one of the second, and one of the second for one of the third.
CHAIN = net_of([9, 0, 0], [([2, 0, 0], [0, 1, 0]), ([0, 1, 0], [0, 0, 1])])
# The first bowl is filled for nothing; the other door takes five of it and gives three back.
SPRING = net_of([0, 0], [([0, 0], [1, 0]), ([5, 0], [3, 1])])


def wants_of(net, goal, room):
    """The wants as the document tells them, or None where there is too little room."""
    bags = [list(goal)]
    movers = [-1]
    leads = [-1]
    for number, bag in enumerate(bags):
        for door, (takes, gives) in enumerate(zip(net.takes, net.gives)):
            ahead = [
                max(takes[bowl], bag[bowl] - (gives[bowl] - takes[bowl])) for bowl in range(len(bag))]
            if not any(all(one <= other for one, other in zip(low, ahead)) for low in bags):
                if len(bags) == room:
                    return None
                bags.append(ahead)
                movers.append(door)
                leads.append(number)
    return {"bags": bags, "movers": movers, "leads": leads}


def covers_from(net, beads, goal, most):
    """Whether a goal is seen to be covered behind some row of doors, looking at so many beads."""
    found = [list(beads)]
    for one in found:
        if beneath(goal, one):
            return True
        for door in range(len(net.doors)):
            if may(net, one, door):
                behind = after(net, one, door)
                if behind not in found and len(found) < most:
                    found.append(behind)
    return False


def drawn_cases(seed, many):
    draw = Draw(seed)
    for _ in range(many):
        bowls = draw.number(1, 3)
        yield draw.net(bowls, draw.number(0, 3), draw.number(1, 3)), draw.bag(bowls, 0, 3)
        yield draw.moving_net(bowls, draw.number(1, 3), draw.number(1, 2)), draw.bag(bowls, 0, 3)


def values(found):
    return {"bags": found.bags, "movers": found.movers, "leads": found.leads}


class LeastAheadTest(unittest.TestCase):
    def test_what_the_door_takes_or_the_goal_less_its_gain(self):
        self.assertEqual(least_ahead(CHAIN, [0, 0, 0], 0), [2, 0, 0])
        self.assertEqual(least_ahead(CHAIN, [1, 0, 0], 0), [3, 0, 0])
        self.assertEqual(least_ahead(CHAIN, [0, 3, 4], 0), [2, 2, 4])
        self.assertEqual(least_ahead(CHAIN, [5, 3, 4], 1), [5, 4, 3])
        self.assertEqual(least_ahead(SPRING, [2, 0], 1), [5, 0])
        self.assertEqual(least_ahead(SPRING, [3, 0], 1), [5, 0])
        self.assertEqual(least_ahead(SPRING, [4, 9], 1), [6, 8])
        self.assertEqual(least_ahead(SPRING, [0, 0], 0), [0, 0])

    def test_many_figures(self):
        self.assertEqual(least_ahead(CHAIN, [GREAT, GREAT, 0], 0), [GREAT + 2, GREAT - 1, 0])

    def test_the_goal_lies_beneath_what_is_behind_just_where_these_lie_beneath_what_is_ahead(self):
        draw = Draw(141)
        for _ in range(25):
            net = draw.net(2, 2, 3)
            for goal in box(2, 3):
                for door in range(2):
                    least = least_ahead(net, goal, door)
                    self.assertGreaterEqual(min(least), 0)
                    for beads in box(2, 7):
                        covered = may(net, beads, door) and beneath(goal, after(net, beads, door))
                        self.assertIs(beneath(least, beads), covered)


class WantsTest(unittest.TestCase):
    def refused(self, net, goal, room):
        with self.assertRaises(TooWide) as caught:
            wants(net, goal, room)
        self.assertIsInstance(caught.exception, HallError)

    def test_no_door(self):
        for room in (1, 200):
            self.assertEqual(values(wants(BARE, [5, 5], room)), {"bags": [[5, 5]], "movers": [-1], "leads": [-1]})

    def test_the_goal_of_noughts(self):
        for net, many in ((BARE, 2), (CHAIN, 3), (SPRING, 2)):
            self.assertEqual(values(wants(net, [0] * many, 1)), {
                "bags": [[0] * many], "movers": [-1], "leads": [-1]})

    def test_want_by_want(self):
        self.assertEqual(values(wants(CHAIN, [0, 0, 1], 3)), {
            "bags": [[0, 0, 1], [0, 1, 0], [2, 0, 0]], "movers": [-1, 1, 0], "leads": [-1, 0, 1]})
        self.assertEqual(values(wants(CHAIN, [0, 1, 1], 6)), {
            "bags": [[0, 1, 1], [2, 0, 1], [0, 2, 0], [2, 1, 0], [4, 0, 0]],
            "movers": [-1, 0, 1, 1, 0], "leads": [-1, 0, 0, 1, 3]})
        self.assertEqual(values(wants(SPRING, [0, 1], 10)), {
            "bags": [[0, 1], [5, 0], [4, 0], [3, 0], [2, 0], [1, 0], [0, 0]],
            "movers": [-1, 1, 0, 0, 0, 0, 0], "leads": [-1, 0, 1, 2, 3, 4, 5]})

    def test_one_put_before_lies_beneath_it(self):
        # By each door the same beads are wanted; only by the first are they put.
        net = net_of([0], [([2], [3]), ([2], [3]), ([1], [2])])
        self.assertEqual(values(wants(net, [3], 9)), {
            "bags": [[3], [2], [1]], "movers": [-1, 0, 2], "leads": [-1, 0, 1]})
        # The same wants lie beneath what is wanted by the door that takes more than it gives.
        net = net_of([0], [([5], [2])])
        self.assertEqual(values(wants(net, [3], 1)), {"bags": [[3]], "movers": [-1], "leads": [-1]})

    def test_drawn_goals(self):
        many = 0
        for net, goal in drawn_cases(142, 150):
            wanted = wants_of(net, goal, 60)
            if wanted is None:
                self.refused(net, goal, 60)
            else:
                many += len(wanted["bags"]) > 5
                self.assertEqual(values(wants(net, goal, 60)), wanted)
        self.assertGreater(many, 20)

    def test_just_so_many_wants_and_one_less(self):
        for net, goal in drawn_cases(143, 40):
            wanted = wants_of(net, goal, 60)
            if wanted is not None:
                many = len(wanted["bags"])
                self.assertEqual(values(wants(net, goal, many)), wanted)
                self.assertEqual(values(wants(net, goal, 200)), wanted)
                if many > 1:
                    self.refused(net, goal, many - 1)
                    self.refused(net, goal, 1)

    def test_the_greatest_room(self):
        net = net_of([0], [([0], [1])])
        self.assertEqual(wants(net, [199], 200).bags, [[number] for number in range(199, -1, -1)])
        self.refused(net, [200], 200)

    def test_many_figures(self):
        self.assertEqual(values(wants(net_of([0], [([1], [0])]), [GREAT], 1)), {
            "bags": [[GREAT]], "movers": [-1], "leads": [-1]})
        self.refused(SPRING, [0, GREAT], 200)


class WayTest(unittest.TestCase):
    def test_the_empty_way(self):
        found = wants(CHAIN, [0, 0, 1], 60)
        self.assertEqual(way_from(found, [0, 0, 1]), [])
        self.assertEqual(way_from(found, [9, 9, 9]), [])
        self.assertEqual(way_from(wants(BARE, [0, 0], 1), [0, 0]), [])

    def test_none(self):
        found = wants(CHAIN, [0, 0, 1], 60)
        self.assertIs(way_from(found, [1, 0, 0]), None)
        self.assertIs(way_from(found, [0, 0, 0]), None)
        self.assertIs(way_from(wants(BARE, [1, 0], 1), [0, GREAT]), None)

    def test_ways(self):
        found = wants(CHAIN, [0, 1, 1], 60)
        self.assertEqual(way_from(found, [2, 0, 1]), [0])
        self.assertEqual(way_from(found, [0, 2, 0]), [1])
        self.assertEqual(way_from(found, [4, 0, 0]), [0, 1, 0])
        self.assertIs(way_from(found, [3, 0, 0]), None)
        self.assertEqual(way_from(wants(SPRING, [0, 1], 60), [2, 0]), [0, 0, 0, 1])

    def test_the_first_want_that_lies_beneath(self):
        found = wants(CHAIN, [0, 1, 1], 60)
        self.assertEqual(found.bags[1:4], [[2, 0, 1], [0, 2, 0], [2, 1, 0]])
        self.assertEqual(way_from(found, [9, 2, 0]), [1])
        self.assertEqual(way_from(found, [4, 1, 0]), [1, 0])
        self.assertEqual(way_from(found, [4, 0, 1]), [0])

    def test_ways_from_all_beads_of_a_box(self):
        none = 0
        some = 0
        for net, goal in drawn_cases(144, 40):
            if wants_of(net, goal, 60) is None:
                continue
            found = wants(net, goal, 60)
            for beads in box(len(goal), 4):
                row = way_from(found, beads)
                if row is None:
                    none += 1
                    self.assertFalse(covers_from(net, beads, goal, 25))
                else:
                    some += 1
                    self.assertTrue(beneath(goal, walked(net, beads, row)[-1]))
                    lying = [want for want, bag in enumerate(found.bags) if beneath(bag, beads)]
                    wanted = []
                    want = lying[0]
                    while want != 0:
                        wanted.append(found.movers[want])
                        want = found.leads[want]
                    self.assertEqual(row, wanted)
        self.assertGreater(min(none, some), 300)

    def test_no_beads_are_told_too_little(self):
        # Where a row of doors is seen to go to the goal, a way is told.
        for net, goal in drawn_cases(145, 30):
            if wants_of(net, goal, 60) is not None:
                found = wants(net, goal, 60)
                for beads in box(len(goal), 3):
                    if covers_from(net, beads, goal, 25):
                        self.assertIsNotNone(way_from(found, beads))


class OwnTest(unittest.TestCase):
    def test_what_is_told_is_the_askers_own(self):
        check_own(self, least_ahead, CHAIN, [0, 0, 1], 1)
        check_own(self, least_ahead, CHAIN, [0, 0, 0], 1)
        for net, goal in ((CHAIN, [0, 1, 1]), (BARE, [3, 3]), (SPRING, [0, 1])):
            check_own(self, wants, net, goal, 60)
            check_own(self, way_from, wants(net, goal, 60), [9] * len(goal))
            check_own(self, way_from, wants(net, goal, 60), [4] + [0] * (len(goal) - 1))

    def test_nothing_handed_in_is_kept(self):
        net = net_of([9, 0, 0], [([2, 0, 0], [0, 1, 0]), ([0, 1, 0], [0, 0, 1])])
        check_copied(
            self, lambda one, goal: lambda found=wants(one, goal, 60): (content(found), way_from(found, [9, 0, 0])),
            net, [0, 1, 1])

    def test_kinds(self):
        found = wants(CHAIN, [0, 1, 1], 60)
        self.assertIsInstance(found, Wants)
        for told in (
                least_ahead(CHAIN, [0, 0, 1], 0), found.bags, found.movers, found.leads, way_from(found, [9, 0, 0])):
            self.assertIs(type(told), list)
            check_kinds(self, told)
        self.assertTrue(all(type(bag) is list for bag in found.bags))

    def test_arguments_have_their_names(self):
        self.assertEqual(least_ahead(net=CHAIN, goal=[0, 0, 1], door=1), [0, 1, 0])
        found = wants(net=CHAIN, goal=[0, 0, 1], room=3)
        self.assertEqual(way_from(found=found, beads=[2, 0, 0]), [0, 1])


if __name__ == "__main__":
    unittest.main()
