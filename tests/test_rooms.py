"""[10.1], and [0.2] and [0.4] for rooms."""

import unittest

from beadhall.errors import HallError, TooWide
from beadhall.goings import walked
from beadhall.rooms import Rooms, roomed, run_to

from common import Draw, check_copied, check_kinds, check_own, content, met_by_runs, net_of

BARE = net_of([4, 0], [])
# Two of the first bowl for one of the second, and one of the second for one of the third.
CHAIN = net_of([4, 0, 0], [([2, 0, 0], [0, 1, 0]), ([0, 1, 0], [0, 0, 1])])
SPRING = net_of([0], [([0], [1])])


def rooms_of(net, room):
    """The rooms as the document tells them, or None where there are more than so many."""
    bags = [list(net.first)]
    parents = [-1]
    comers = [-1]
    for number, bag in enumerate(bags):
        for door, (takes, gives) in enumerate(zip(net.takes, net.gives)):
            behind = [has - took + gave for has, took, gave in zip(bag, takes, gives)]
            if all(has >= took for has, took in zip(bag, takes)) and behind not in bags:
                if len(bags) == room:
                    return None
                bags.append(behind)
                parents.append(number)
                comers.append(door)
    return {"bags": bags, "parents": parents, "comers": comers}


def values(found):
    return {"bags": found.bags, "parents": found.parents, "comers": found.comers}


def drawn_nets(seed, many):
    draw = Draw(seed)
    for _ in range(many):
        yield draw.net(draw.number(1, 4), draw.number(0, 4), draw.number(1, 3))
        yield draw.moving_net(draw.number(1, 4), draw.number(1, 4), draw.number(1, 2))
        yield draw.keeping_net(draw.number(1, 4), draw.number(1, 4), draw.number(1, 9), draw.number(1, 3))


class RoomsTest(unittest.TestCase):
    def refused(self, net, room):
        with self.assertRaises(TooWide) as caught:
            roomed(net, room)
        self.assertIsInstance(caught.exception, HallError)

    def test_no_door(self):
        for room in (1, 200):
            self.assertEqual(values(roomed(BARE, room)), {"bags": [[4, 0]], "parents": [-1], "comers": [-1]})

    def test_room_by_room(self):
        self.assertEqual(values(roomed(CHAIN, 6)), {
            "bags": [[4, 0, 0], [2, 1, 0], [0, 2, 0], [2, 0, 1], [0, 1, 1], [0, 0, 2]],
            "parents": [-1, 0, 1, 1, 2, 4], "comers": [-1, 0, 0, 1, 1, 1]})

    def test_beads_that_were_put_before(self):
        # Both doors lead to the same beads, and the third one nowhere else.
        net = net_of([1, 0], [([1, 0], [0, 1]), ([1, 0], [0, 1]), ([0, 0], [0, 0]), ([0, 1], [1, 0])])
        self.assertEqual(values(roomed(net, 2)), {"bags": [[1, 0], [0, 1]], "parents": [-1, 0], "comers": [-1, 0]})

    def test_lesser_beads_are_rooms_of_their_own(self):
        net = net_of([3], [([1], [0])])
        self.assertEqual(roomed(net, 4).bags, [[3], [2], [1], [0]])
        self.refused(net, 3)

    def test_just_so_many_and_one_less(self):
        self.refused(CHAIN, 5)
        self.refused(CHAIN, 1)
        for net in drawn_nets(271, 60):
            wanted = rooms_of(net, 40)
            if wanted is None:
                self.refused(net, 40)
            else:
                many = len(wanted["bags"])
                self.assertEqual(values(roomed(net, many)), wanted)
                self.assertEqual(values(roomed(net, 200)), wanted)
                if many > 1:
                    self.refused(net, many - 1)

    def test_the_greatest_room(self):
        net = net_of([199], [([1], [0])])
        self.assertEqual(len(roomed(net, 200).bags), 200)
        self.refused(net, 199)
        self.refused(net_of([200], [([1], [0])]), 200)
        self.refused(SPRING, 200)

    def test_drawn_nets(self):
        sizes = []
        for net in drawn_nets(272, 120):
            wanted = rooms_of(net, 100)
            if wanted is not None:
                self.assertEqual(values(roomed(net, 100)), wanted)
                self.assertEqual(roomed(net, 100).bags, met_by_runs(net, 101))
                sizes.append(len(wanted["bags"]))
        self.assertGreater(len([size for size in sizes if size > 5]), 15)

    def test_great_numbers(self):
        most = 10 ** 9
        net = net_of([most, 0], [([most, 0], [0, most]), ([0, most], [most - 1, 0])])
        self.assertEqual(roomed(net, 3).bags, [[most, 0], [0, most], [most - 1, 0]])


class RunTest(unittest.TestCase):
    def test_runs(self):
        found = roomed(CHAIN, 60)
        self.assertEqual(
            [run_to(found, number) for number in range(6)], [[], [0], [0, 0], [0, 1], [0, 0, 1], [0, 0, 1, 1]])
        self.assertEqual(run_to(roomed(BARE, 1), 0), [])

    def test_runs_lead_to_their_rooms(self):
        for net in drawn_nets(273, 80):
            if rooms_of(net, 60) is None:
                continue
            found = roomed(net, 60)
            for number, beads in enumerate(found.bags):
                row = run_to(found, number)
                met = walked(net, net.first, row)
                self.assertEqual(met[-1], beads)
                # By the rooms it came from, one by one.
                self.assertEqual(
                    row, ([] if number == 0 else run_to(found, found.parents[number]) + [found.comers[number]]))


class OwnTest(unittest.TestCase):
    def test_what_is_told_is_the_askers_own(self):
        for net in (BARE, CHAIN):
            check_own(self, roomed, net, 60)
            check_own(self, run_to, roomed(net, 60), len(roomed(net, 60).bags) - 1)

    def test_nothing_handed_in_is_kept(self):
        net = net_of([4, 0, 0], [([2, 0, 0], [0, 1, 0]), ([0, 1, 0], [0, 0, 1])])
        check_copied(self, lambda one: lambda found=roomed(one, 60): (content(found), run_to(found, 5)), net)

    def test_kinds(self):
        found = roomed(CHAIN, 60)
        self.assertIsInstance(found, Rooms)
        for told in (found.bags, found.parents, found.comers, run_to(found, 5)):
            self.assertIs(type(told), list)
            check_kinds(self, told)
        self.assertTrue(all(type(bag) is list for bag in found.bags))

    def test_arguments_have_their_names(self):
        found = roomed(net=CHAIN, room=6)
        self.assertEqual(run_to(found=found, number=3), [0, 1])


if __name__ == "__main__":
    unittest.main()
