"""[5.4], and [0.2] and [0.4] for least pits and least stoppers."""

import unittest

from beadhall.pits import least_pits, least_stoppers

from common import Draw, check_kinds, check_own, net_of, sets_of

BARE = net_of([0, 3, 0], [])
# The second door takes nothing.
FREE = net_of([1, 1], [([1, 0], [0, 1]), ([0, 0], [1, 0])])
CHAIN = net_of([1, 0, 0, 0], [
    ([1, 0, 0, 0], [0, 1, 0, 0]), ([0, 1, 0, 0], [0, 0, 1, 0]), ([0, 0, 1, 0], [0, 0, 0, 1])])


def takers(net, bowls):
    return {door for door in range(len(net.doors)) if sum(net.takes[door][bowl] for bowl in bowls) > 0}


def givers(net, bowls):
    return {door for door in range(len(net.doors)) if sum(net.gives[door][bowl] for bowl in bowls) > 0}


def least_of(found):
    return [bowls for bowls in found if not any(set(inner) < set(bowls) for inner in found)]


def drawn_nets():
    draw = Draw(91)
    for _ in range(150):
        yield draw.net(draw.number(1, 5), draw.number(0, 5), 2)
    for _ in range(10):
        yield draw.net(6, 8, 1)


class LeastTest(unittest.TestCase):
    def test_least_pits_of_drawn_nets(self):
        several = 0
        for net in drawn_nets():
            found = [
                bowls for bowls in sets_of(range(len(net.bowls)))
                if bowls and givers(net, bowls) <= takers(net, bowls)]
            self.assertEqual(least_pits(net), least_of(found))
            several += len(least_of(found)) > 1
        self.assertGreater(several, 20)

    def test_least_stoppers_of_drawn_nets(self):
        several = 0
        for net in drawn_nets():
            found = [bowls for bowls in sets_of(range(len(net.bowls))) if len(takers(net, bowls)) == len(net.doors)]
            self.assertEqual(least_stoppers(net), least_of(found))
            several += len(least_of(found)) > 1
        self.assertGreater(several, 20)

    def test_no_door(self):
        self.assertEqual(least_stoppers(BARE), [[]])
        self.assertEqual(least_pits(BARE), [[0], [1], [2]])

    def test_a_door_that_takes_nothing(self):
        self.assertEqual(least_stoppers(FREE), [])
        self.assertEqual(least_stoppers(net_of([1], [([0], [0])])), [])

    def test_no_pit(self):
        self.assertEqual(least_pits(net_of([0, 0], [([0, 0], [1, 1])])), [])

    def test_chain(self):
        self.assertEqual(least_pits(CHAIN), [[0]])
        self.assertEqual(least_stoppers(CHAIN), [[0, 1, 2]])

    def test_fewer_bowls_first(self):
        net = net_of([1] * 4, [([0, 1, 0, 1], [0, 0, 0, 0]), ([1, 0, 0, 1], [0, 0, 0, 0])])
        self.assertEqual(least_stoppers(net), [[3], [0, 1]])
        net = net_of([1] * 3, [([1, 0, 0], [0, 1, 0]), ([0, 1, 0], [1, 0, 0]), ([0, 0, 1], [0, 0, 1])])
        self.assertEqual(least_pits(net), [[2], [0, 1]])

    def test_the_lesser_bowl_at_the_first_place_where_they_differ(self):
        net = net_of([1] * 4, [([1, 0, 0, 1], [0] * 4), ([0, 1, 1, 0], [0] * 4)])
        self.assertEqual(least_stoppers(net), [[0, 1], [0, 2], [1, 3], [2, 3]])
        pairs = net_of([1] * 4, [
            ([1, 0, 0, 0], [0, 0, 0, 1]), ([0, 0, 0, 1], [1, 0, 0, 0]),
            ([0, 1, 0, 0], [0, 0, 1, 0]), ([0, 0, 1, 0], [0, 1, 0, 0])])
        self.assertEqual(least_pits(pairs), [[0, 3], [1, 2]])

    def test_all_bowls(self):
        net = net_of([0, 0], [([1, 0], [0, 1]), ([0, 1], [1, 0])])
        self.assertEqual(least_pits(net), [[0, 1]])
        self.assertEqual(least_stoppers(net), [[0, 1]])


class OwnTest(unittest.TestCase):
    def test_what_is_told_is_the_askers_own(self):
        for net in (BARE, FREE, CHAIN):
            check_own(self, least_pits, net)
            check_own(self, least_stoppers, net)

    def test_kinds(self):
        for net in (BARE, FREE, CHAIN):
            for told in (least_pits(net), least_stoppers(net)):
                self.assertIs(type(told), list)
                self.assertTrue(all(type(bowls) is list for bowls in told))
                check_kinds(self, told)

    def test_arguments_have_their_names(self):
        self.assertEqual(least_pits(net=CHAIN), [[0]])
        self.assertEqual(least_stoppers(net=CHAIN), [[0, 1, 2]])


if __name__ == "__main__":
    unittest.main()
