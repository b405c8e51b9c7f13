"""[5.1], [5.2], [5.3], and [0.2] and [0.4] for traps and pits."""

import unittest

from beadhall.goings import after, may
from beadhall.traps import gives_to, greatest_pit, greatest_trap, is_pit, is_trap, lies_in, takes_from

from common import Draw, box, check_kinds, check_own, net_of, sets_of

# A door takes from the first two bowls and gives to the third, one takes nothing, one gives nothing,
# one goes from the third bowl to itself.
NET = net_of([1, 0, 2, 0], [
    ([1, 3, 0, 0], [0, 0, 2, 0]),
    ([0, 0, 0, 0], [0, 5, 0, 0]),
    ([0, 0, 0, 1], [0, 0, 0, 0]),
    ([0, 0, 1, 0], [0, 0, 1, 0])])
BARE = net_of([0, 3, 0], [])
# Beads go from each bowl to the next one.
CHAIN = net_of([1, 0, 0, 0], [
    ([1, 0, 0, 0], [0, 1, 0, 0]), ([0, 1, 0, 0], [0, 0, 1, 0]), ([0, 0, 1, 0], [0, 0, 0, 1])])


def drawn_nets():
    draw = Draw(81)
    for _ in range(60):
        yield draw.net(draw.number(1, 4), draw.number(0, 4), 2)


def sets_of_net(net):
    return sets_of(range(len(net.bowls)))


class TouchTest(unittest.TestCase):
    def test_takes_from(self):
        self.assertIs(takes_from(NET, 0, []), False)
        self.assertIs(takes_from(NET, 0, [0]), True)
        self.assertIs(takes_from(NET, 0, [1]), True)
        self.assertIs(takes_from(NET, 0, [2]), False)
        self.assertIs(takes_from(NET, 0, [2, 3]), False)
        self.assertIs(takes_from(NET, 0, [1, 2, 3]), True)
        self.assertIs(takes_from(NET, 1, [0, 1, 2, 3]), False)
        self.assertIs(takes_from(NET, 2, [0, 1, 2, 3]), True)

    def test_gives_to(self):
        self.assertIs(gives_to(NET, 0, []), False)
        self.assertIs(gives_to(NET, 0, [0, 1, 3]), False)
        self.assertIs(gives_to(NET, 0, [2]), True)
        self.assertIs(gives_to(NET, 0, [0, 2]), True)
        self.assertIs(gives_to(NET, 1, [1]), True)
        self.assertIs(gives_to(NET, 2, [0, 1, 2, 3]), False)
        self.assertIs(gives_to(NET, 3, [2, 3]), True)

    def test_lies_in(self):
        self.assertIs(lies_in([1, 0, 2], []), False)
        self.assertIs(lies_in([1, 0, 2], [0]), True)
        self.assertIs(lies_in([1, 0, 2], [1]), False)
        self.assertIs(lies_in([1, 0, 2], [1, 2]), True)
        self.assertIs(lies_in([0, 0, 0], [0, 1, 2]), False)
        self.assertIs(lies_in([10 ** 999, 0, 0], [0, 1, 2]), True)

    def test_all_sets_of_drawn_nets(self):
        for net in drawn_nets():
            for bowls in sets_of_net(net):
                for door in range(len(net.doors)):
                    self.assertIs(takes_from(net, door, bowls), sum(net.takes[door][bowl] for bowl in bowls) >= 1)
                    self.assertIs(gives_to(net, door, bowls), sum(net.gives[door][bowl] for bowl in bowls) >= 1)
                self.assertIs(lies_in(net.first, bowls), sum(net.first[bowl] for bowl in bowls) >= 1)


class TrapAndPitTest(unittest.TestCase):
    def test_the_empty_set_is_both(self):
        for net in (NET, BARE, CHAIN):
            self.assertIs(is_trap(net, []), True)
            self.assertIs(is_pit(net, []), True)

    def test_without_a_door_each_set_is_both(self):
        for bowls in sets_of_net(BARE):
            self.assertIs(is_trap(BARE, bowls), True)
            self.assertIs(is_pit(BARE, bowls), True)

    def test_a_trap_that_is_no_pit_and_a_pit_that_is_no_trap(self):
        self.assertIs(is_trap(CHAIN, [3]), True)
        self.assertIs(is_pit(CHAIN, [3]), False)
        self.assertIs(is_trap(CHAIN, [0]), False)
        self.assertIs(is_pit(CHAIN, [0]), True)
        self.assertIs(is_trap(CHAIN, [1, 2, 3]), True)
        self.assertIs(is_pit(CHAIN, [0, 1]), True)
        self.assertIs(is_trap(CHAIN, [1, 2]), False)
        self.assertIs(is_pit(CHAIN, [1, 2]), False)

    def test_all_bowls(self):
        self.assertIs(is_trap(CHAIN, [0, 1, 2, 3]), True)
        self.assertIs(is_pit(CHAIN, [0, 1, 2, 3]), True)
        self.assertIs(is_trap(NET, [0, 1, 2, 3]), False)
        self.assertIs(is_pit(NET, [0, 1, 2, 3]), False)

    def test_doors_that_take_or_give_nothing(self):
        self.assertIs(is_trap(NET, [3]), False)
        self.assertIs(is_pit(NET, [3]), True)
        self.assertIs(is_pit(NET, [1]), False)
        self.assertIs(is_trap(NET, [2]), True)

    def test_all_sets_of_drawn_nets(self):
        for net in drawn_nets():
            for bowls in sets_of_net(net):
                taking = {door for door in range(len(net.doors)) if sum(net.takes[door][bowl] for bowl in bowls)}
                giving = {door for door in range(len(net.doors)) if sum(net.gives[door][bowl] for bowl in bowls)}
                self.assertIs(is_trap(net, bowls), taking <= giving)
                self.assertIs(is_pit(net, bowls), giving <= taking)

    def test_what_doors_do_to_beads_in_them(self):
        for net in list(drawn_nets())[:20]:
            for beads in box(len(net.bowls), 2):
                for door in range(len(net.doors)):
                    if may(net, beads, door):
                        behind = after(net, beads, door)
                        for bowls in sets_of_net(net):
                            if is_trap(net, bowls) and lies_in(beads, bowls):
                                self.assertTrue(lies_in(behind, bowls))
                            if is_pit(net, bowls) and not lies_in(beads, bowls):
                                self.assertFalse(lies_in(behind, bowls))


class GreatestTest(unittest.TestCase):
    def check(self, net, bowls, call, is_one, from_bowl, to_left):
        told = call(net, bowls)
        greatest = set()
        for inner in sets_of(bowls):
            if is_one(net, inner):
                greatest.update(inner)
        self.assertEqual(told[0], sorted(greatest))
        left = list(bowls)
        for pair in told[1]:
            ways = [
                (bowl, door) for bowl in left for door in range(len(net.doors))
                if from_bowl[door][bowl] > 0 and not any(to_left[door][other] > 0 for other in left)]
            self.assertEqual(pair, min(ways))
            left.remove(pair[0])
        self.assertEqual(left, told[0])

    def test_all_sets_of_drawn_nets(self):
        for net in list(drawn_nets()) + [NET, BARE, CHAIN]:
            for bowls in sets_of_net(net):
                self.check(net, bowls, greatest_trap, is_trap, net.takes, net.gives)
                self.check(net, bowls, greatest_pit, is_pit, net.gives, net.takes)

    def test_a_net_of_the_greatest_size(self):
        net = Draw(82).net(6, 8, 1)
        for bowls in sets_of_net(net):
            self.check(net, bowls, greatest_trap, is_trap, net.takes, net.gives)
            self.check(net, bowls, greatest_pit, is_pit, net.gives, net.takes)

    def test_nothing_is_peeled(self):
        self.assertEqual(greatest_trap(CHAIN, [0, 1, 2, 3]), ([0, 1, 2, 3], []))
        self.assertEqual(greatest_pit(CHAIN, [0, 1]), ([0, 1], []))
        self.assertEqual(greatest_trap(CHAIN, []), ([], []))
        self.assertEqual(greatest_pit(CHAIN, []), ([], []))
        self.assertEqual(greatest_trap(BARE, [0, 2]), ([0, 2], []))

    def test_nothing_is_left(self):
        self.assertEqual(greatest_trap(CHAIN, [0, 1, 2]), ([], [(2, 2), (1, 1), (0, 0)]))
        self.assertEqual(greatest_pit(CHAIN, [1, 2, 3]), ([], [(1, 0), (2, 1), (3, 2)]))

    def test_something_is_left(self):
        self.assertEqual(greatest_trap(NET, [0, 1, 2, 3]), ([0, 1, 2], [(3, 2)]))
        self.assertEqual(greatest_pit(NET, [0, 1, 2, 3]), ([0, 2, 3], [(1, 1)]))
        self.assertEqual(greatest_pit(NET, [1, 2, 3]), ([3], [(1, 1), (2, 0)]))

    def test_the_first_bowl_by_the_first_door(self):
        net = net_of([0, 0, 0], [
            ([0, 0, 1], [0, 0, 0]), ([0, 1, 1], [1, 0, 0]), ([1, 1, 0], [0, 0, 0]), ([1, 1, 1], [0, 0, 0])])
        self.assertEqual(greatest_trap(net, [0, 1, 2]), ([], [(0, 2), (1, 1), (2, 0)]))
        self.assertEqual(greatest_trap(net, [1, 2]), ([], [(1, 1), (2, 0)]))
        self.assertEqual(greatest_trap(net, [0, 2]), ([], [(0, 2), (2, 0)]))

    def test_a_bowl_that_a_door_gives_back_to_is_not_peeled_by_it(self):
        net = net_of([1, 1], [([1, 1], [1, 0])])
        self.assertEqual(greatest_trap(net, [0, 1]), ([0, 1], []))
        self.assertEqual(greatest_trap(net, [0]), ([0], []))
        self.assertEqual(greatest_trap(net, [1]), ([], [(1, 0)]))


class OwnTest(unittest.TestCase):
    def test_what_is_told_is_the_askers_own(self):
        check_own(self, takes_from, NET, 0, [0, 1])
        check_own(self, gives_to, NET, 0, [0, 1])
        check_own(self, lies_in, [1, 0, 2], [0, 2])
        for bowls in ([], [2], [0, 1, 2, 3]):
            check_own(self, is_trap, NET, bowls)
            check_own(self, is_pit, NET, bowls)
            check_own(self, greatest_trap, NET, bowls)
            check_own(self, greatest_pit, NET, bowls)

    def test_kinds(self):
        for told in (greatest_trap(CHAIN, [0, 1, 2]), greatest_pit(NET, [0, 1, 2, 3]), greatest_pit(NET, [])):
            self.assertEqual((type(told), [type(thing) for thing in told]), (tuple, [list, list]))
            check_kinds(self, told)
            self.assertTrue(all(type(pair) is tuple for pair in told[1]))

    def test_arguments_have_their_names(self):
        self.assertIs(takes_from(net=NET, door=0, bowls=[0]), True)
        self.assertIs(gives_to(net=NET, door=0, bowls=[0]), False)
        self.assertIs(lies_in(beads=[1, 0], bowls=[0]), True)
        self.assertIs(is_trap(net=NET, bowls=[2]), True)
        self.assertIs(is_pit(net=NET, bowls=[3]), True)
        self.assertEqual(greatest_trap(net=NET, bowls=[3]), ([], [(3, 2)]))
        self.assertEqual(greatest_pit(net=NET, bowls=[3]), ([3], []))


if __name__ == "__main__":
    unittest.main()
