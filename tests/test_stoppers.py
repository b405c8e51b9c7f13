"""[5.5], [5.6], [5.7], and [0.2] and [0.4] for stoppers and reasons."""

import unittest

from beadhall.bags import weighed
from beadhall.goings import may
from beadhall.nets import gain
from beadhall.pits import least_stoppers
from beadhall.stoppers import kept_reasons, stopped_by, stuck_at, top_beads
from beadhall.sums import sums
from beadhall.traps import is_trap

from common import Draw, box, check_kinds, check_own, met_by_runs, net_of, sets_of

BARE = net_of([0, 3, 0], [])
FREE = net_of([1, 1], [([1, 0], [0, 1]), ([0, 0], [1, 0])])
# One bead that goes round three bowls.
RING = net_of([1, 0, 0], [([1, 0, 0], [0, 1, 0]), ([0, 1, 0], [0, 0, 1]), ([0, 0, 1], [1, 0, 0])])
# Doors that take two or three from one bowl, and one from each.
TOPS = net_of([3, 1], [([2, 0], [0, 1]), ([3, 0], [0, 0]), ([1, 1], [2, 0])])


def drawn_nets(seed, many):
    draw = Draw(seed)
    for _ in range(many):
        yield draw.net(draw.number(1, 4), draw.number(0, 4), draw.number(1, 3))


def moving_nets(seed, many):
    """Nets with reasons."""
    draw = Draw(seed)
    for _ in range(many):
        yield draw.moving_net(draw.number(1, 4), draw.number(1, 4), draw.number(1, 2))


def greatest_trap_of(net, bowls):
    found = set()
    for inner in sets_of(bowls):
        if is_trap(net, inner):
            found.update(inner)
    return sorted(found)


def is_reason(net, stopper, reason):
    """Whether this is a reason of the kinds that the document tells, found or not."""
    tops = top_beads(net)
    if reason[0] == "trap":
        return (
            set(reason[1]) <= set(stopper) and is_trap(net, reason[1])
            and all(tops[bowl] == 1 for bowl in reason[1]) and any(net.first[bowl] > 0 for bowl in reason[1]))
    weights = reason[1]
    bound = sum(weights[bowl] * (tops[bowl] - 1) for bowl in stopper)
    return (
        all(weight == 0 or bowl in stopper for bowl, weight in enumerate(weights)) and min(weights) >= 0
        and all(weighed(weights, gain(net, door)) >= 0 for door in range(len(net.doors)))
        and weighed(weights, net.first) > bound)


def reason_of(net, stopper):
    """The reason that is to be told, tried one by one."""
    tops = top_beads(net)
    tries = [("trap", greatest_trap_of(net, [bowl for bowl in stopper if tops[bowl] == 1]))]
    tries += [("weight", [int(other == bowl) for other in range(len(net.bowls))]) for bowl in stopper]
    tries += [("weight", weights) for bowl, weights in sums(net)]
    for reason in tries:
        if is_reason(net, stopper, reason):
            return reason
    return None


class TopsTest(unittest.TestCase):
    def test_tops(self):
        self.assertEqual(top_beads(TOPS), [3, 1])
        self.assertEqual(top_beads(RING), [1, 1, 1])
        self.assertEqual(top_beads(FREE), [1, 0])
        self.assertEqual(top_beads(net_of([0, 0], [([0, 10 ** 9], [7, 7])])), [0, 10 ** 9])

    def test_no_door(self):
        self.assertEqual(top_beads(BARE), [0, 0, 0])


class StuckTest(unittest.TestCase):
    def test_beads_that_stick_and_that_do_not(self):
        self.assertIs(stuck_at(TOPS, [1, 0]), True)
        self.assertIs(stuck_at(TOPS, [0, 99]), True)
        self.assertIs(stuck_at(TOPS, [2, 0]), False)
        self.assertIs(stuck_at(TOPS, [1, 1]), False)
        self.assertIs(stuck_at(RING, [0, 0, 0]), True)
        self.assertIs(stuck_at(RING, [0, 0, 1]), False)

    def test_no_door(self):
        self.assertIs(stuck_at(BARE, [5, 5, 10 ** 999]), True)
        self.assertEqual(stopped_by(BARE, [5, 5, 10 ** 999]), [])

    def test_a_door_that_takes_nothing(self):
        self.assertIs(stuck_at(FREE, [0, 0]), False)
        self.assertIs(stopped_by(FREE, [0, 0]), None)

    def test_stopped_by(self):
        self.assertEqual(stopped_by(TOPS, [1, 0]), [0])
        self.assertIs(stopped_by(TOPS, [2, 0]), None)
        self.assertEqual(stopped_by(RING, [0, 0, 0]), [0, 1, 2])

    def test_the_first_of_several(self):
        net = net_of([0] * 4, [([2, 0, 0, 2], [0] * 4), ([0, 2, 2, 0], [0] * 4)])
        self.assertEqual(least_stoppers(net), [[0, 1], [0, 2], [1, 3], [2, 3]])
        self.assertEqual(stopped_by(net, [1, 1, 1, 1]), [0, 1])
        self.assertEqual(stopped_by(net, [1, 2, 1, 1]), [0, 2])
        self.assertEqual(stopped_by(net, [9, 1, 1, 1]), [1, 3])
        self.assertEqual(stopped_by(net, [9, 9, 0, 0]), [2, 3])
        self.assertIs(stopped_by(net, [2, 0, 0, 2]), None)

    def test_a_bowl_that_stops_by_its_top_alone(self):
        # The second door lacks beads in the second bowl alone, but the first bowl is below its top.
        net = net_of([0, 0], [([5, 0], [0, 0]), ([1, 1], [0, 0])])
        self.assertEqual(stopped_by(net, [4, 0]), [0])

    def test_small_nets(self):
        for net in drawn_nets(101, 80):
            tops = [max([takes[bowl] for takes in net.takes], default=0) for bowl in range(len(net.bowls))]
            self.assertEqual(top_beads(net), tops)
            for beads in box(len(net.bowls), 3):
                stuck = not any(may(net, beads, door) for door in range(len(net.doors)))
                self.assertIs(stuck_at(net, beads), stuck)
                stopping = [bowls for bowls in least_stoppers(net) if all(beads[bowl] < tops[bowl] for bowl in bowls)]
                self.assertEqual(stopped_by(net, beads), stopping[0] if stuck else None)


class ReasonsTest(unittest.TestCase):
    def test_trap(self):
        self.assertEqual(kept_reasons(RING), [("trap", [0, 1, 2])])

    def test_none(self):
        self.assertEqual(kept_reasons(BARE), [None])
        self.assertEqual(kept_reasons(FREE), [])
        self.assertEqual(kept_reasons(net_of([9], [([1], [0])])), [None])
        self.assertEqual(kept_reasons(net_of([0], [([1], [1])])), [None])

    def test_the_trap_is_the_greatest_one(self):
        # The first bowl alone is a trap, too, and so is the second.
        net = net_of([1, 1], [([1, 0], [1, 0]), ([0, 1], [0, 1])])
        self.assertEqual(kept_reasons(net), [("trap", [0, 1])])

    def test_the_trap_ahead_of_weights(self):
        # The first bowl alone is weight enough.
        net = net_of([1], [([1], [1])])
        self.assertEqual(kept_reasons(net), [("trap", [0])])

    def test_the_trap_lies_within_the_bowls_with_the_top_1(self):
        # All bowls are a trap, but of the top 2 there is one that the beads may leave.
        net = net_of([1, 2], [([1, 0], [0, 1]), ([0, 2], [2, 0])])
        self.assertEqual(least_stoppers(net), [[0, 1]])
        self.assertEqual(kept_reasons(net), [("weight", [1, 1])])

    def test_a_trap_without_beads_is_no_reason(self):
        net = net_of([0, 3], [([1, 0], [1, 0]), ([0, 1], [0, 1])])
        self.assertEqual(kept_reasons(net), [("trap", [0, 1])])
        net = net_of([0, 3], [([1, 2], [1, 2])])
        self.assertEqual(kept_reasons(net), [None, ("weight", [0, 1])])

    def test_one_bowl_at_a_time_in_order(self):
        net = net_of([4, 5, 6], [([2, 0, 0], [2, 0, 0]), ([0, 3, 0], [0, 3, 0]), ([0, 0, 4], [0, 0, 5])])
        self.assertEqual(kept_reasons(net), [("weight", [1, 0, 0])])
        net = net_of([1, 5, 6], [([2, 0, 0], [2, 0, 0]), ([0, 3, 0], [0, 3, 0]), ([0, 0, 4], [0, 0, 5])])
        self.assertEqual(kept_reasons(net), [("weight", [0, 1, 0])])
        net = net_of([1, 2, 4], [([2, 0, 0], [2, 0, 0]), ([0, 3, 0], [0, 3, 0]), ([0, 0, 4], [0, 0, 5])])
        self.assertEqual(kept_reasons(net), [("weight", [0, 0, 1])])

    def test_first_beads_just_enough_and_one_too_few(self):
        for beads, wanted in ((1, None), (2, ("weight", [1])), (3, ("weight", [1]))):
            self.assertEqual(kept_reasons(net_of([beads], [([2], [2])])), [wanted])
        for beads, wanted in ((2, None), (3, ("weight", [1, 1]))):
            net = net_of([beads, 0], [([2, 0], [0, 2]), ([0, 2], [2, 0])])
            self.assertEqual(kept_reasons(net), [wanted])

    def test_sums_in_their_order(self):
        # Beads go between the first bowl and the third, and between the second and the fourth.
        doors = [
            ([2, 0, 0, 0], [0, 0, 2, 0]), ([0, 0, 2, 0], [2, 0, 0, 0]),
            ([0, 2, 0, 0], [0, 0, 0, 2]), ([0, 0, 0, 2], [0, 2, 0, 0])]
        for first, wanted in (
                ([3, 3, 0, 0], [1, 0, 1, 0]), ([2, 3, 0, 0], [0, 1, 0, 1]), ([0, 0, 2, 3], [0, 1, 0, 1])):
            self.assertEqual(kept_reasons(net_of(first, doors)), [("weight", wanted)])
        self.assertEqual(kept_reasons(net_of([2, 2, 0, 0], doors)), [None])

    def test_a_sum_that_reaches_beyond_the_stopper_is_no_reason(self):
        # What the sum weighs may all lie in the third bowl, outside the stopper.
        net = net_of([9, 9, 9], [([2, 0, 0], [0, 2, 0]), ([0, 2, 0], [2, 0, 0]), ([2, 0, 0], [0, 0, 2])])
        self.assertEqual(sums(net), [(2, [1, 1, 1])])
        self.assertEqual(kept_reasons(net), [None])

    def test_a_sum_with_a_weight_below_nought_is_no_reason(self):
        net = net_of([0, 9], [([2, 2], [0, 0]), ([0, 2], [2, 4]), ([2, 0], [4, 2])])
        self.assertEqual(sums(net), [(1, [-1, 1])])
        self.assertEqual(least_stoppers(net), [[0, 1]])
        self.assertEqual(kept_reasons(net), [None])

    def test_in_the_order_of_the_least_stoppers(self):
        net = net_of([0, 7, 5], [([1, 1, 2], [1, 0, 2])])
        self.assertEqual(least_stoppers(net), [[0], [1], [2]])
        self.assertEqual(kept_reasons(net), [None, None, ("weight", [0, 0, 1])])

    def test_drawn_nets(self):
        found = []
        for net in list(drawn_nets(102, 200)) + list(moving_nets(104, 300)):
            told = kept_reasons(net)
            stoppers = least_stoppers(net)
            self.assertEqual(told, [reason_of(net, stopper) for stopper in stoppers])
            found += [reason[0] if reason else "none" for reason in told]
        for kind in ("trap", "weight", "none"):
            self.assertGreater(found.count(kind), 20)

    def test_no_run_ends_where_each_least_stopper_has_a_reason(self):
        looked = 0
        for net in moving_nets(103, 300):
            reasons = kept_reasons(net)
            if None not in reasons and reasons:
                looked += 1
                for beads in met_by_runs(net, 60):
                    self.assertFalse(stuck_at(net, beads))
        self.assertGreater(looked, 50)


class OwnTest(unittest.TestCase):
    def test_what_is_told_is_the_askers_own(self):
        twice = net_of([2, 2], [([2, 2], [2, 2])])
        self.assertEqual(kept_reasons(twice), [("weight", [1, 0]), ("weight", [0, 1])])
        for net in (BARE, FREE, RING, TOPS, twice, net_of([3, 0], [([2, 0], [0, 2]), ([0, 2], [2, 0])])):
            check_own(self, top_beads, net)
            check_own(self, stuck_at, net, [0] * len(net.bowls))
            check_own(self, stopped_by, net, [0] * len(net.bowls))
            check_own(self, kept_reasons, net)

    def test_kinds(self):
        self.assertIs(type(top_beads(TOPS)), list)
        self.assertIs(type(stopped_by(TOPS, [1, 0])), list)
        for net in (BARE, RING, TOPS, net_of([4], [([2], [2])])):
            told = kept_reasons(net)
            self.assertIs(type(told), list)
            for part in (told, top_beads(net), stopped_by(net, [0] * len(net.bowls))):
                check_kinds(self, part)
            for reason in told:
                if reason is not None:
                    self.assertEqual((type(reason), [type(thing) for thing in reason]), (tuple, [str, list]))

    def test_arguments_have_their_names(self):
        self.assertEqual(top_beads(net=TOPS), [3, 1])
        self.assertIs(stuck_at(net=TOPS, beads=[1, 0]), True)
        self.assertEqual(stopped_by(net=TOPS, beads=[1, 0]), [0])
        self.assertEqual(kept_reasons(net=RING), [("trap", [0, 1, 2])])


if __name__ == "__main__":
    unittest.main()
