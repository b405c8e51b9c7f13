"""[4.6], [4.7], [4.8], and [0.2] and [0.4] for sums."""

import unittest

from beadhall.bags import less, measure, plus, times, weighed
from beadhall.clearing import weighings
from beadhall.errors import HallError, Unlike
from beadhall.goings import tally_gain
from beadhall.nets import gain
from beadhall.sums import accounted, levers, rounds, sums, tells_apart, unmoved

from common import Draw, box, check_kinds, check_own, net_of

GREAT = 10 ** 900

BARE = net_of([4, 0, 6], [])
# Doors that gain nothing, one of them though it takes and gives.
STILL = net_of([1, 2], [([0, 0], [0, 0]), ([3, 1], [3, 1])])
# The third door does what the two ahead of it do together, the fourth what the first does, turned round.
HUNG = net_of([5, 1, 0], [
    ([1, 0, 0], [0, 1, 0]), ([0, 1, 0], [0, 0, 1]), ([1, 0, 0], [0, 0, 1]), ([0, 1, 0], [1, 0, 0])])
# Gains of [2, 0, -4] and [0, 3, -3].
STEPS = net_of([2, 2, 9], [([0, 0, 4], [2, 0, 0]), ([0, 0, 3], [0, 3, 0])])


def gains_of(net):
    return [less(gives, takes) for takes, gives in zip(net.takes, net.gives)]


def drawn_nets():
    draw = Draw(71)
    for _ in range(120):
        yield draw.net(draw.number(1, 4), draw.number(0, 4), draw.number(1, 5))


class SumsTest(unittest.TestCase):
    def test_no_door(self):
        self.assertEqual(sums(BARE), [(0, [1, 0, 0]), (1, [0, 1, 0]), (2, [0, 0, 1])])
        self.assertEqual(levers(BARE), [])
        self.assertEqual(rounds(BARE), [])

    def test_doors_without_a_gain(self):
        self.assertEqual(sums(STILL), [(0, [1, 0]), (1, [0, 1])])
        self.assertEqual(levers(STILL), [])
        self.assertEqual(rounds(STILL), [(0, [1, 0]), (1, [0, 1])])

    def test_gains_that_hang_together(self):
        self.assertEqual(sums(HUNG), [(2, [1, 1, 1])])
        self.assertEqual([bowl for bowl, tally in levers(HUNG)], [0, 1])
        self.assertEqual(rounds(HUNG), [(2, [-1, -1, 1, 0]), (3, [1, 0, 0, 1])])

    def test_steps(self):
        self.assertEqual(sums(STEPS), [(2, [2, 1, 1])])
        self.assertEqual([bowl for bowl, tally in levers(STEPS)], [0, 1])
        self.assertEqual(rounds(STEPS), [])

    def test_what_sums_weigh_is_not_changed_by_a_door(self):
        for net in drawn_nets():
            for bowl, weights in sums(net):
                self.assertEqual([weighed(weights, gained) for gained in gains_of(net)], [0] * len(net.doors))

    def test_sums_by_free_bowls(self):
        for net in drawn_nets():
            told = sums(net)
            self.assertEqual(told, weighings(gains_of(net), len(net.bowls)))
            free = [bowl for bowl, weights in told]
            self.assertEqual(free, sorted(set(free)))
            for bowl, weights in told:
                self.assertEqual((len(weights), measure(weights)), (len(net.bowls), 1))
                self.assertEqual([weights[other] > 0 for other in free], [other == bowl for other in free])
                self.assertEqual([weights[other] != 0 for other in free], [other == bowl for other in free])

    def test_levers_by_pivots(self):
        for net in drawn_nets():
            told = levers(net)
            pivots = [bowl for bowl, tally in told]
            free = [bowl for bowl, weights in sums(net)]
            self.assertEqual(pivots, [bowl for bowl in range(len(net.bowls)) if bowl not in free])
            for bowl, tally in told:
                self.assertEqual(len(tally), len(net.doors))
                gained = tally_gain(net, tally)
                self.assertGreater(gained[bowl], 0)
                self.assertEqual([gained[other] for other in pivots if other != bowl], [0] * (len(pivots) - 1))

    def test_rounds_by_free_doors(self):
        for net in drawn_nets():
            told = rounds(net)
            rows = gains_of(net)
            turned = [[row[bowl] for row in rows] for bowl in range(len(net.bowls))]
            self.assertEqual(told, weighings(turned, len(net.doors)))
            free = [door for door, tally in told]
            self.assertEqual(free, sorted(set(free)))
            self.assertEqual(len(net.doors) - len(free), len(net.bowls) - len(sums(net)))
            for door, tally in told:
                self.assertEqual((len(tally), measure(tally)), (len(net.doors), 1))
                self.assertGreater(tally[door], 0)
                self.assertEqual([tally[other] for other in free if other != door], [0] * (len(free) - 1))
                self.assertEqual(tally_gain(net, tally), [0] * len(net.bowls))

    def test_a_net_of_the_greatest_size(self):
        net = Draw(72).net(6, 8, 1000000000)
        for bowl, weights in sums(net):
            self.assertEqual([weighed(weights, gained) for gained in gains_of(net)], [0] * 8)
        for door, tally in rounds(net):
            self.assertEqual(tally_gain(net, tally), [0] * 6)
        self.assertEqual(len(sums(net)) + len(levers(net)), 6)


class UnmovedTest(unittest.TestCase):
    def test_part_0(self):
        self.assertIs(unmoved(STEPS, [2, 1, 1], 0), True)
        self.assertIs(unmoved(STEPS, [-2, -1, -1], 0), True)
        self.assertIs(unmoved(STEPS, [2, 1, 2], 0), False)
        self.assertIs(unmoved(STEPS, [1, 0, 0], 0), False)
        self.assertIs(unmoved(STEPS, [0, 0, 0], 0), True)

    def test_part_1(self):
        self.assertIs(unmoved(STEPS, [1, -7, 3], 1), True)
        self.assertIs(tells_apart(STEPS, [1, -7, 3], 1, [9, 9, 9]), False)

    def test_part_2_and_greater(self):
        self.assertIs(unmoved(STEPS, [1, 0, 0], 2), True)
        self.assertIs(unmoved(STEPS, [0, 1, 0], 2), False)
        self.assertIs(unmoved(STEPS, [0, 1, 0], 3), True)
        self.assertIs(unmoved(STEPS, [0, -1, 0], 3), True)
        self.assertIs(unmoved(STEPS, [1, 0, 0], 3), False)
        self.assertIs(unmoved(STEPS, [3, 2, 0], 6), True)
        self.assertIs(unmoved(STEPS, [3, 2, 0], 12), False)

    def test_the_last_door_counts_too(self):
        net = net_of([0], [([0], [2]), ([0], [4]), ([0], [3])])
        self.assertIs(unmoved(net, [1], 2), False)
        self.assertIs(unmoved(net, [2], 2), True)

    def test_weights_of_many_figures(self):
        self.assertIs(unmoved(STEPS, [2 * GREAT, GREAT, GREAT], 0), True)
        self.assertIs(unmoved(STEPS, [2 * GREAT, GREAT, GREAT + 1], 0), False)
        self.assertIs(unmoved(STEPS, [GREAT, 0, 0], 2 * GREAT), True)
        self.assertIs(unmoved(STEPS, [GREAT, 0, 0], 2 * GREAT + 1), False)

    def test_no_door_moves_anything(self):
        for part in (0, 1, 2, 7):
            self.assertIs(unmoved(BARE, [3, -4, 5], part), True)

    def test_all_small_weights(self):
        draw = Draw(73)
        for _ in range(20):
            net = draw.net(2, 2, 4)
            for numbers in box(2, 4):
                weights = less(numbers, [2, 2])
                for part in range(5):
                    weighs = [weighed(weights, gained) for gained in gains_of(net)]
                    multiples = {part * number for number in range(-100, 101)}
                    still = all(number in multiples for number in weighs)
                    self.assertIs(unmoved(net, weights, part), still)
                    for bag in ([0, 0], [3, -1], [1, 4], net.first):
                        apart = weighed(weights, less(bag, net.first)) not in multiples
                        self.assertIs(tells_apart(net, weights, part, bag), still and apart)

    def test_unlike(self):
        for net in (STEPS, BARE):
            for weights in ([], [1, 2], [1, 2, 3, 4]):
                with self.assertRaises(Unlike) as caught:
                    unmoved(net, weights, 0)
                self.assertIsInstance(caught.exception, HallError)


class TellsApartTest(unittest.TestCase):
    def test_part_0(self):
        self.assertIs(tells_apart(STEPS, [2, 1, 1], 0, [2, 2, 10]), True)
        self.assertIs(tells_apart(STEPS, [2, 1, 1], 0, [3, 2, 7]), False)
        self.assertIs(tells_apart(STEPS, [2, 1, 1], 0, [2, 2, 9]), False)
        self.assertIs(tells_apart(STEPS, [1, 0, 0], 0, [0, 0, 0]), False)

    def test_greater_parts(self):
        self.assertIs(tells_apart(STEPS, [1, 0, 0], 2, [3, 0, 0]), True)
        self.assertIs(tells_apart(STEPS, [1, 0, 0], 2, [4, 0, 0]), False)
        self.assertIs(tells_apart(STEPS, [1, 0, 0], 2, [-3, 0, 0]), True)
        self.assertIs(tells_apart(STEPS, [0, 1, 0], 3, [0, 4, 0]), True)
        self.assertIs(tells_apart(STEPS, [0, 1, 0], 3, [0, 5, 0]), False)
        self.assertIs(tells_apart(STEPS, [0, 1, 0], 2, [0, 5, 0]), False)

    def test_many_figures(self):
        self.assertIs(tells_apart(STEPS, [GREAT, 0, 0], 2 * GREAT, [GREAT + 1, 0, 0]), True)
        self.assertIs(tells_apart(STEPS, [GREAT, 0, 0], 2 * GREAT, [GREAT + 2, 0, 0]), False)

    def test_no_door(self):
        self.assertIs(tells_apart(BARE, [0, 1, 0], 0, [4, 1, 6]), True)
        self.assertIs(tells_apart(BARE, [0, 1, 0], 2, [4, 2, 6]), False)

    def test_unlike(self):
        for net in (STEPS, BARE):
            for weights, bag in (
                    ([1, 2], [1, 2, 3]), ([1, 2, 3, 4], [1, 2, 3]), ([2, 1, 1], [1, 2]), ([2, 1, 1], [1, 2, 3, 4]),
                    ([1, 0, 0], [1, 2]), ([1, 2], [1, 2]), ([], []), ([1, 2, 3, 4], [1, 2, 3, 4])):
                with self.assertRaises(Unlike):
                    tells_apart(net, weights, 0, bag)


class AccountedTest(unittest.TestCase):
    def check(self, net, bag):
        """The kind of the answer, once it is found to be right."""
        told = accounted(net, bag)
        unlike = [weights for bowl, weights in sums(net) if weighed(weights, bag) != weighed(weights, net.first)]
        if unlike:
            self.assertEqual(told, ("sum", unlike[0], 0))
            return "sum"
        if told[0] == "sum":
            self.assertEqual(len(told), 3)
            self.assertGreaterEqual(told[2], 2)
            self.assertTrue(tells_apart(net, told[1], told[2], bag))
            return "part"
        self.assertEqual((told[0], len(told)), ("tally", 2))
        self.assertEqual(len(told[1]), len(net.doors))
        self.assertEqual(tally_gain(net, told[1]), less(bag, net.first))
        return "tally"

    def test_by_a_sum(self):
        self.assertEqual(accounted(STEPS, [2, 2, 8]), ("sum", [2, 1, 1], 0))
        self.assertEqual(accounted(STEPS, [1, 1, 1]), ("sum", [2, 1, 1], 0))
        self.assertEqual(accounted(BARE, [4, 0, 7]), ("sum", [0, 0, 1], 0))

    def test_by_the_first_of_several_sums(self):
        self.assertEqual(accounted(BARE, [4, 1, 7]), ("sum", [0, 1, 0], 0))
        self.assertEqual(accounted(BARE, [5, 1, 7]), ("sum", [1, 0, 0], 0))
        self.assertEqual(accounted(STILL, [1, 5]), ("sum", [0, 1], 0))

    def test_by_weights_and_a_part(self):
        self.assertEqual(self.check(STEPS, [3, 2, 7]), "part")
        self.assertEqual(self.check(STEPS, [2, 3, 8]), "part")
        self.assertEqual(self.check(STEPS, [1, 1, 12]), "part")
        self.assertEqual(self.check(net_of([1], [([0], [6]), ([10], [0])]), [2]), "part")

    def test_by_a_tally(self):
        self.assertEqual(accounted(STEPS, [4, 2, 5]), ("tally", [1, 0]))
        self.assertEqual(accounted(STEPS, [0, 5, 10]), ("tally", [-1, 1]))
        self.assertEqual(self.check(net_of([1], [([0], [6]), ([10], [0])]), [3]), "tally")
        self.assertEqual(self.check(HUNG, [0, 0, 6]), "tally")

    def test_the_first_beads(self):
        for net in (BARE, STILL, HUNG, STEPS):
            self.assertEqual(self.check(net, net.first), "tally")
        self.assertEqual(accounted(BARE, [4, 0, 6]), ("tally", []))

    def test_numbers_of_either_sign_and_of_many_figures(self):
        self.assertEqual(accounted(STEPS, [2 + 2 * GREAT, 2, 9 - 4 * GREAT]), ("tally", [GREAT, 0]))
        self.assertEqual(self.check(STEPS, [3 + 2 * GREAT, 2, 7 - 4 * GREAT]), "part")
        self.assertEqual(accounted(STEPS, [-GREAT, 0, 0]), ("sum", [2, 1, 1], 0))

    def test_drawn_nets_and_bags(self):
        draw = Draw(74)
        found = []
        for net in drawn_nets():
            for _ in range(12):
                found.append(self.check(net, draw.bag(len(net.bowls), -6, 12)))
                tally = draw.bag(len(net.doors), -3, 3)
                self.assertEqual(self.check(net, plus(net.first, tally_gain(net, tally))), "tally")
                half = [number // 2 for number in tally_gain(net, times(3, tally))]
                found.append(self.check(net, plus(net.first, half)))
        for kind in ("sum", "part", "tally"):
            self.assertGreater(found.count(kind), 100)

    def test_nets_of_the_greatest_size(self):
        draw = Draw(75)
        for _ in range(10):
            net = draw.net(6, 8, 1000000000)
            self.assertEqual(self.check(net, plus(net.first, gain(net, 3))), "tally")
            self.check(net, draw.bag(6, 0, 1000000000))
            net = draw.net(6, 6, 1000000000)
            self.check(net, draw.bag(6, 0, 1000000000))

    def test_unlike(self):
        for net in (STEPS, BARE):
            for bag in ([], [1, 2], [1, 2, 3, 4]):
                with self.assertRaises(Unlike):
                    accounted(net, bag)


class OwnTest(unittest.TestCase):
    def test_what_is_told_is_the_askers_own(self):
        for net in (BARE, STILL, HUNG, STEPS):
            check_own(self, sums, net)
            check_own(self, levers, net)
            check_own(self, rounds, net)
            check_own(self, accounted, net, list(net.first))
            check_own(self, accounted, net, [number + 1 for number in net.first])
        check_own(self, unmoved, STEPS, [1, 0, 0], 2)
        check_own(self, tells_apart, STEPS, [1, 0, 0], 2, [3, 0, 0])
        check_own(self, accounted, STEPS, [3, 2, 7])
        check_own(self, accounted, STEPS, [4, 2, 5])

    def test_kinds(self):
        for net in (HUNG, STEPS):
            for told in (sums(net), levers(net), rounds(net)):
                self.assertIs(type(told), list)
                check_kinds(self, told)
                for inner in told:
                    self.assertEqual((type(inner), [type(thing) for thing in inner]), (tuple, [int, list]))
        for bag, kinds in (([3, 2, 7], [str, list, int]), ([9, 9, 9], [str, list, int]), ([2, 2, 9], [str, list])):
            told = accounted(STEPS, bag)
            self.assertEqual((type(told), [type(thing) for thing in told]), (tuple, kinds))
            check_kinds(self, told)

    def test_arguments_have_their_names(self):
        self.assertEqual(sums(net=STEPS), [(2, [2, 1, 1])])
        self.assertEqual(levers(net=STEPS), levers(STEPS))
        self.assertEqual(rounds(net=STEPS), [])
        self.assertIs(unmoved(net=STEPS, weights=[2, 1, 1], part=0), True)
        self.assertIs(tells_apart(net=STEPS, weights=[2, 1, 1], part=0, bag=[2, 2, 9]), False)
        self.assertEqual(accounted(net=STEPS, bag=[4, 2, 5]), ("tally", [1, 0]))


if __name__ == "__main__":
    unittest.main()
