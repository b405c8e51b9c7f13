"""[9.2], [9.3], what [9.4] says of papers that are rightly made, and [0.2] and [0.4] for papers."""

import unittest

from beadhall.papers import (
    dry_holds, fall_holds, fence_holds, reasons_hold, room_holds, sum_holds, wants_hold, well_made, wet_holds)
from beadhall.pits import least_stoppers
from beadhall.stoppers import kept_reasons
from beadhall.sums import sums
from beadhall.tree import fence, grown
from beadhall.wants import wants

from common import Draw, box, check_own, met_by_runs, net_of, sets_of

GREAT = 10 ** 999

BARE = net_of([4, 0], [])
# Two of the first bowl for one of the second, and one of the second for one of the third.
CHAIN = net_of([4, 0, 0], [([2, 0, 0], [0, 1, 0]), ([0, 1, 0], [0, 0, 1])])
# The first bowl is filled for nothing, and the second from it.
SPRING = net_of([0, 0], [([0, 0], [1, 0]), ([1, 0], [0, 1])])
# One bead that goes round three bowls.
RING = net_of([1, 0, 0], [([1, 0, 0], [0, 1, 0]), ([0, 1, 0], [0, 0, 1]), ([0, 0, 1], [1, 0, 0])])


def weigh(weights, numbers):
    return sum(weight * number for weight, number in zip(weights, numbers, strict=True))


def gains_of(net):
    return [[gave - took for took, gave in zip(takes, gives)] for takes, gives in zip(net.takes, net.gives)]


def lies_under(low, high):
    return all(other is None or (one is not None and one <= other) for one, other in zip(low, high, strict=True))


def behind(mark, takes, gives):
    return [None if has is None else has - takes[bowl] + gives[bowl] for bowl, has in enumerate(mark)]


def fence_by_words(net, marks):
    led = [list(net.first)]
    for mark in marks:
        for takes, gives in zip(net.takes, net.gives):
            if lies_under(takes, mark):
                led.append(behind(mark, takes, gives))
    return all(any(lies_under(one, mark) for mark in marks) for one in led)


def room_by_words(net, rooms):
    led = [list(net.first)]
    for beads in rooms:
        for takes, gives in zip(net.takes, net.gives):
            if lies_under(takes, beads):
                led.append(behind(beads, takes, gives))
    return all(beads in rooms for beads in led)


def wants_by_words(net, goal, bags):
    led = [goal]
    for bag in bags:
        for takes, gives in zip(net.takes, net.gives):
            led.append([max(took, has - gave + took) for took, gave, has in zip(takes, gives, bag)])
    return all(any(lies_under(bag, one) for bag in bags) for one in led) and not any(
        lies_under(bag, net.first) for bag in bags)


def reason_by_words(net, stopper, reason):
    if reason is None:
        return False
    tops = [max([takes[bowl] for takes in net.takes], default=0) for bowl in range(len(net.bowls))]
    if reason[0] == "trap":
        bowls = reason[1]
        for takes, gives in zip(net.takes, net.gives):
            if any(takes[bowl] for bowl in bowls) and not any(gives[bowl] for bowl in bowls):
                return False
        return all(bowl in stopper and tops[bowl] == 1 for bowl in bowls) and any(net.first[bowl] for bowl in bowls)
    weights = reason[1]
    if any(weight < 0 or (weight > 0 and bowl not in stopper) for bowl, weight in enumerate(weights)):
        return False
    bound = sum(weights[bowl] * (tops[bowl] - 1) for bowl in stopper)
    return all(weigh(weights, row) >= 0 for row in gains_of(net)) and weigh(weights, net.first) > bound


def drawn_nets(seed, many):
    draw = Draw(seed)
    for _ in range(many):
        yield draw.net(draw.number(1, 3), draw.number(0, 3), draw.number(1, 2))
        yield draw.moving_net(draw.number(1, 3), draw.number(1, 3), draw.number(1, 2))


def without_each(things):
    """The list without one of its things, for each of them."""
    return [things[:place] + things[place + 1:] for place in range(len(things))]


class Counting(unittest.TestCase):
    def setUp(self):
        self.told = []

    def check(self, call, wanted, *handed):
        self.told.append(wanted)
        self.assertIs(call(*handed), wanted, handed[1:])

    def enough(self, least):
        self.assertGreaterEqual(min(self.told.count(True), self.told.count(False)), least)


class FenceTest(Counting):
    def test_fences(self):
        for marks, wanted in (
                ([[None, None]], True), ([[None, None], [3, 3]], True), ([], False),
                ([[None, 5]], False), ([[5, None]], False), ([[None, 0], [0, None]], False)):
            self.assertIs(fence_holds(SPRING, marks), wanted)

    def test_the_first_beads(self):
        for marks, wanted in (([[4, 0]], True), ([[3, 9]], False), ([[9, 9]], True), ([[3, 9], [4, 0]], True)):
            self.assertIs(fence_holds(BARE, marks), wanted)
        self.assertIs(fence_holds(BARE, [[None, 0]]), True)
        self.assertIs(fence_holds(BARE, [[0, None]]), False)

    def test_a_door_that_leads_out(self):
        right = [[4, 0, 0], [2, 1, 0], [0, 2, 0], [2, 0, 1], [0, 1, 1], [0, 0, 2]]
        self.assertIs(fence_holds(CHAIN, right), True)
        self.assertIs(fence_holds(CHAIN, list(reversed(right))), True)
        for marks in without_each(right):
            self.assertIs(fence_holds(CHAIN, marks), False)
        # A mark that no run comes near leads out as well.
        self.assertIs(fence_holds(CHAIN, right + [[2, 0, 9]]), False)
        self.assertIs(fence_holds(CHAIN, right + [[0, 0, 9]]), True)
        # One under another mark leads out of it, too.
        self.assertIs(fence_holds(CHAIN, [[4, 2, 2]]), False)
        self.assertIs(fence_holds(CHAIN, [[4, None, None]]), True)

    def test_drawn_fences(self):
        draw = Draw(241)
        for net in drawn_nets(242, 100):
            marks = [
                [draw.number(0, 3) if draw.number(0, 2) else None for _ in net.bowls]
                for _ in range(draw.number(0, 3))]
            self.check(fence_holds, fence_by_words(net, marks), net, marks)
            try:
                marks = fence(grown(net, 40))
            except ValueError:
                continue
            self.check(fence_holds, True, net, marks)
            for fewer in without_each(marks):
                self.check(fence_holds, fence_by_words(net, fewer), net, fewer)
        self.enough(40)


class RoomTest(Counting):
    def test_rooms(self):
        right = met_by_runs(CHAIN, 60)
        self.assertEqual(len(right), 6)
        self.assertIs(room_holds(CHAIN, right), True)
        self.assertIs(room_holds(CHAIN, list(reversed(right)) + [[0, 0, 1], [0, 0, 1]]), True)
        self.assertIs(room_holds(CHAIN, right + [[2, 0, 0]]), False)
        for rooms in without_each(right):
            self.assertIs(room_holds(CHAIN, rooms), False)

    def test_the_first_beads_are_in_it_themselves(self):
        self.assertIs(room_holds(BARE, [[4, 0]]), True)
        self.assertIs(room_holds(BARE, [[5, 0]]), False)
        self.assertIs(room_holds(BARE, [[5, 5], [4, 0]]), True)
        self.assertIs(room_holds(BARE, []), False)

    def test_no_room_is_wide_enough(self):
        for many in (1, 5, 30):
            self.assertIs(room_holds(SPRING, met_by_runs(SPRING, many)), False)

    def test_drawn_rooms(self):
        for net in drawn_nets(243, 100):
            rooms = met_by_runs(net, 15)
            self.check(room_holds, room_by_words(net, rooms), net, rooms)
            for fewer in without_each(rooms):
                self.check(room_holds, room_by_words(net, fewer), net, fewer)
            more = rooms + [[1] * len(net.bowls)]
            self.check(room_holds, room_by_words(net, more), net, more)
        self.enough(40)


class WantsTest(Counting):
    def test_wants(self):
        right = [[0, 0, 3], [0, 1, 2], [2, 0, 2], [0, 2, 1], [2, 1, 1], [4, 0, 1], [0, 3, 0], [2, 2, 0], [4, 1, 0],
                 [6, 0, 0]]
        self.assertEqual(sorted(wants(CHAIN, [0, 0, 3], 60).bags), sorted(right))
        self.assertIs(wants_hold(CHAIN, [0, 0, 3], right), True)
        self.assertIs(wants_hold(CHAIN, [0, 0, 3], list(reversed(right)) + right), True)
        for bags in without_each(right):
            self.assertIs(wants_hold(CHAIN, [0, 0, 3], bags), False)

    def test_one_lies_beneath_the_goal(self):
        self.assertIs(wants_hold(BARE, [5, 0], [[5, 0]]), True)
        self.assertIs(wants_hold(BARE, [6, 3], [[5, 0]]), True)
        self.assertIs(wants_hold(BARE, [4, 3], [[5, 0]]), False)
        self.assertIs(wants_hold(BARE, [5, 0], []), False)

    def test_one_lies_beneath_the_first_beads(self):
        self.assertIs(wants_hold(BARE, [5, 0], [[4, 0]]), False)
        self.assertIs(wants_hold(BARE, [5, 0], [[5, 0], [3, 0]]), False)
        self.assertIs(wants_hold(BARE, [5, 0], [[5, 0], [0, 1]]), True)

    def test_drawn_wants(self):
        draw = Draw(244)
        for net in drawn_nets(245, 100):
            goal = draw.bag(len(net.bowls), 0, 3)
            try:
                bags = wants(net, goal, 40).bags
            except ValueError:
                continue
            self.check(wants_hold, wants_by_words(net, goal, bags), net, goal, bags)
            for fewer in without_each(bags):
                self.check(wants_hold, wants_by_words(net, goal, fewer), net, goal, fewer)
            other = draw.bag(len(net.bowls), 0, 3)
            self.check(wants_hold, wants_by_words(net, other, bags), net, other, bags)
        self.enough(40)


class WeightsTest(Counting):
    def test_falls(self):
        for weights, wanted in (
                ([1, 2, 2], True), ([1, 2, 1], True), ([1, 2, 3], False), ([1, 3, 3], False), ([0, 0, 0], True),
                ([-1, -2, -2], True), ([0, -1, -1], True), ([-1, 0, 0], False), ([GREAT, 2 * GREAT, GREAT], True),
                ([GREAT, 2 * GREAT + 1, GREAT], False)):
            self.assertIs(fall_holds(CHAIN, weights), wanted)
        self.assertIs(fall_holds(BARE, [5, -5]), True)

    def test_sums_of_each_part(self):
        for weights, part, wanted in (
                ([1, 2, 2], 0, True), ([1, 2, 3], 0, False), ([0, 0, 0], 0, True), ([-1, -2, -2], 0, True),
                ([1, 2, 2], 2, True), ([1, 0, 0], 2, True), ([0, 1, 0], 2, False), ([1, 0, 2], 2, True),
                ([1, 0, -2], 2, True), ([3, 0, 3], 3, True), ([1, 0, 1], 3, False),
                ([1, 5, 2], 3, True), ([1, 4, 2], 3, False), ([GREAT, 0, 0], GREAT * 2, True),
                ([GREAT, 0, 0], GREAT * 3, False)):
            self.assertIs(sum_holds(CHAIN, weights, part), wanted, (weights, part))

    def test_sums_with_another_part(self):
        for part in (1, -1, -2, -GREAT):
            self.assertIs(sum_holds(CHAIN, [1, 2, 2], part), False)
            self.assertIs(sum_holds(CHAIN, [0, 0, 0], part), False)
            self.assertIs(sum_holds(BARE, [0, 0], part), False)

    def test_drawn_weights(self):
        draw = Draw(246)
        for net in drawn_nets(247, 80):
            for weights in [draw.bag(len(net.bowls), -2, 2)] + [weights for bowl, weights in sums(net)]:
                found = [weigh(weights, row) for row in gains_of(net)]
                self.check(fall_holds, max(found, default=0) <= 0, net, weights)
                for part in range(-2, 4):
                    right = all(number == 0 if part == 0 else number % part == 0 for number in found)
                    self.check(sum_holds, right and part in (0, 2, 3), net, weights, part)
        self.enough(100)


class SetTest(Counting):
    def test_dry(self):
        for bowls, wanted in (
                ([], True), ([1], False), ([0], False), ([2], False), ([0, 1], False), ([0, 1, 2], False)):
            self.assertIs(dry_holds(CHAIN, bowls), wanted)
        dry = net_of([0, 0, 3], [([2, 0, 0], [0, 1, 0]), ([0, 1, 0], [0, 0, 1])])
        for bowls, wanted in (([0], True), ([0, 1], True), ([1], False), ([0, 1, 2], False), ([2], False)):
            self.assertIs(dry_holds(dry, bowls), wanted)
        self.assertIs(dry_holds(BARE, [1]), True)
        self.assertIs(dry_holds(BARE, [0]), False)

    def test_wet(self):
        for bowls, wanted in (
                ([], False), ([2], False), ([0, 1, 2], True), ([0, 1], False), ([0], False), ([1, 2], False)):
            self.assertIs(wet_holds(CHAIN, bowls), wanted)
        self.assertIs(wet_holds(BARE, [0]), True)
        self.assertIs(wet_holds(BARE, [0, 1]), True)
        self.assertIs(wet_holds(BARE, [1]), False)

    def test_drawn_sets(self):
        for net in drawn_nets(248, 80):
            for bowls in sets_of(range(len(net.bowls))):
                takers = {door for door, takes in enumerate(net.takes) if any(takes[bowl] for bowl in bowls)}
                givers = {door for door, gives in enumerate(net.gives) if any(gives[bowl] for bowl in bowls)}
                held = any(net.first[bowl] for bowl in bowls)
                self.check(dry_holds, givers <= takers and not held, net, bowls)
                self.check(wet_holds, takers <= givers and held, net, bowls)
        self.enough(100)


class ReasonsTest(Counting):
    def test_reasons(self):
        self.assertIs(reasons_hold(RING, [("trap", [0, 1, 2])]), True)
        self.assertIs(reasons_hold(RING, [("weight", [1, 1, 1])]), True)
        self.assertIs(reasons_hold(RING, [("weight", [GREAT] * 3)]), True)
        self.assertIs(reasons_hold(RING, [("trap", [0, 1])]), False)
        self.assertIs(reasons_hold(RING, [("trap", [])]), False)
        self.assertIs(reasons_hold(RING, [("weight", [1, 1, 2])]), False)
        self.assertIs(reasons_hold(RING, [("weight", [0, 0, 0])]), False)
        self.assertIs(reasons_hold(RING, [("weight", [-1, -1, -1])]), False)
        self.assertIs(reasons_hold(RING, [None]), False)

    def test_too_few_and_too_many(self):
        reason = ("trap", [0, 1, 2])
        for reasons, wanted in (([], False), ([reason], True), ([reason, reason], False), ([reason, None], False)):
            self.assertIs(reasons_hold(RING, reasons), wanted)

    def test_no_least_stopper(self):
        free = net_of([0], [([0], [0])])
        self.assertIs(reasons_hold(free, []), True)
        self.assertIs(reasons_hold(free, [None]), False)
        self.assertIs(reasons_hold(free, [("weight", [0])]), False)

    def test_no_door(self):
        for reasons in ([], [None], [("trap", [])], [("trap", [0])], [("weight", [0, 0])], [("weight", [1, 0])]):
            self.assertIs(reasons_hold(BARE, reasons), False)

    def test_the_order_of_the_least_stoppers(self):
        net = net_of([5, 7], [([1, 2], [1, 2])])
        self.assertEqual(least_stoppers(net), [[0], [1]])
        one = ("trap", [0])
        other = ("weight", [0, 1])
        self.assertIs(reasons_hold(net, [one, other]), True)
        self.assertIs(reasons_hold(net, [other, one]), False)
        self.assertIs(reasons_hold(net, [one, None]), False)
        self.assertIs(reasons_hold(net, [None, other]), False)
        self.assertIs(reasons_hold(net, [("weight", [3, 0]), other]), True)
        self.assertIs(reasons_hold(net, [("weight", [3, 1]), other]), False)
        # The second bowl has the top 2.
        self.assertIs(reasons_hold(net, [one, ("trap", [1])]), False)

    def test_others_than_are_told(self):
        # A trap that isn't the greatest, and weights that no bowl and no sum tells.
        net = net_of([1, 1], [([1, 0], [1, 0]), ([0, 1], [0, 1])])
        for reason, wanted in (
                (("trap", [0]), True), (("trap", [1]), True), (("weight", [2, 3]), True),
                (("weight", [0, 1]), True), (("weight", [-1, 3]), False)):
            self.assertIs(reasons_hold(net, [reason]), wanted)

    def test_weights_and_tops(self):
        for first, wanted in (([3, 0, 2], True), ([2, 0, 2], False), ([2, 1, 0], True), ([1, 1, 9], False)):
            net = net_of(first, [([2, 0, 0], [0, 2, 0]), ([0, 2, 0], [2, 0, 0])])
            self.assertEqual(least_stoppers(net), [[0, 1]])
            self.assertIs(reasons_hold(net, [("weight", [1, 1, 0])]), wanted)
            self.assertIs(reasons_hold(net, [("weight", [1, 1, 1])]), False)

    def test_drawn_reasons(self):
        draw = Draw(249)
        for net in drawn_nets(250, 150):
            stoppers = least_stoppers(net)
            bowls = range(len(net.bowls))
            tries = [kept_reasons(net)]
            for _ in range(6):
                sets = [sets_of(bowls)[draw.number(0, 2 ** len(bowls) - 1)] for _ in stoppers]
                tries.append([("trap", chosen) for chosen in sets])
                tries.append([("weight", draw.bag(len(bowls), -1, 2)) for _ in stoppers])
                tries.append([("weight", draw.sparse(len(bowls), 2)) for _ in stoppers])
            for reasons in tries:
                wanted = all(reason_by_words(net, *pair) for pair in zip(stoppers, reasons, strict=True))
                self.check(reasons_hold, wanted, net, reasons)
        self.enough(60)


RIGHT = [
    ("run", []), ("run", [(0, [0])]), ("run", [(GREAT, [0, 1, 0]), (3, [])]),
    ("branch", []), ("branch", [(0, []), (1, [0, 0])]), ("branch", [(1, [-1, 99, GREAT])]),
    ("fence", []), ("fence", [[0, 0, 0], [None, GREAT, 2], [None, None, None]]),
    ("room", []), ("room", [[0, 0, 0], [GREAT, 1, 2]]), ("wants", []), ("wants", [[0, 0, 0], [GREAT, 1, 2]]),
    ("fall", [0, 0, 0]), ("fall", [-1, GREAT, -GREAT]),
    ("sum", [0, 0, 0], 0), ("sum", [-1, 2, 3], 1), ("sum", [-1, 2, 3], -1), ("sum", [-1, 2, 3], GREAT),
    ("dry", []), ("dry", [0]), ("dry", [2]), ("dry", [0, 2]), ("dry", [0, 1, 2]),
    ("wet", []), ("wet", [0]), ("wet", [2]), ("wet", [0, 2]), ("wet", [0, 1, 2]),
    ("kept", []), ("kept", [None]), ("kept", [("trap", []), ("weight", [0, -1, 2]), None, ("trap", [0, 2])]),
    ("most", [], ("fence", [])), ("most", [(3, [1])], ("fence", [[None, 0, 0]])),
    ("most", [(0, [])], ("room", [[0, 0, 0]])), ("most", [], ("fall", [-1, 0, 0]))]

WRONG = [
    ("run", [(-1, [0])]), ("run", [(-1, [])]), ("run", [(1, [0]), (-GREAT, [0])]),
    ("run", [(1, [2])]), ("run", [(1, [-1])]), ("run", [(0, [2])]), ("run", [(1, [0, 1, 2])]),
    ("run", [(1, [0]), (1, [GREAT])]),
    ("branch", [(2, [])]), ("branch", [(-1, [])]), ("branch", [(0, []), (1, []), (2, [])]),
    ("fence", [[0, 0]]), ("fence", [[0, 0, 0, 0]]), ("fence", [[]]), ("fence", [[0, 0, 0], [None, None]]),
    ("fence", [[-1, 0, 0]]), ("fence", [[0, 0, -1]]), ("fence", [[None, None, -GREAT]]),
    ("fence", [[0, 0, 0], [0, -1, None]]),
    ("fall", [0, 0]), ("fall", [0, 0, 0, 0]), ("fall", []),
    ("sum", [0, 0], 0), ("sum", [0, 0, 0, 0], 0), ("sum", [], 2),
    ("kept", [("trap", [3])]), ("kept", [("trap", [-1])]), ("kept", [("trap", [1, 0])]), ("kept", [("trap", [1, 1])]),
    ("kept", [("weight", [0, 0])]), ("kept", [("weight", [0, 0, 0, 0])]), ("kept", [None, ("trap", [0, 1, 3])]),
    ("kept", [("trap", [0]), None, ("weight", [])])]
WRONG += [
    (kind, bags) for kind in ("room", "wants")
    for bags in ([[0, 0]], [[0, 0, 0, 0]], [[]], [[-1, 0, 0]], [[0, 0, -1]], [[0, 0, 0], [0, -GREAT, 0]],
                 [[0, 0, 0], [0, 0]])]
WRONG += [
    (kind, bowls) for kind in ("dry", "wet")
    for bowls in ([3], [-1], [0, 1, 3], [-1, 0], [1, 0], [0, 0], [0, 2, 1], [0, 1, 1], [2, 2])]
WRONG += [("most", paper[1], ("fence", [])) for paper in WRONG if paper[0] == "run"]
WRONG += [("most", [], paper) for paper in WRONG if paper[0] in ("fence", "room", "fall")]


class WellMadeTest(unittest.TestCase):
    def test_rightly_made(self):
        for paper in RIGHT:
            self.assertIs(well_made(CHAIN, paper), True, paper)

    def test_one_thing_wrong(self):
        for paper in WRONG:
            self.assertIs(well_made(CHAIN, paper), False, paper)

    def test_other_forms(self):
        for paper in (
                ("walk", []), ("none",), ("most", [], ("run", [])), ("most", [], ("wants", [])),
                ("most", [], ("dry", [])), ("most", [], ("most", [], ("fence", []))), ("room", [[0, None, 0]]),
                ("wants", [[None, 0, 0]]), ("most", [], ("room", [[0, 0, None]])), ("kept", [("pit", [0, 1, 2])])):
            self.assertIs(well_made(CHAIN, paper), False, paper)

    def test_each_form_is_there_both_ways(self):
        forms = {"run", "branch", "fence", "room", "wants", "fall", "sum", "dry", "wet", "kept", "most"}
        self.assertEqual({paper[0] for paper in RIGHT}, forms)
        self.assertEqual({paper[0] for paper in WRONG}, forms)

    def test_no_door(self):
        self.assertIs(well_made(BARE, ("run", [])), True)
        self.assertIs(well_made(BARE, ("run", [(1, [])])), True)
        self.assertIs(well_made(BARE, ("run", [(1, [0])])), False)
        self.assertIs(well_made(BARE, ("branch", [(0, [])])), False)

    def test_all_beads_and_sets(self):
        for bag in [[number - 1 for number in beads] for width in (1, 2, 3) for beads in box(width, 2)]:
            right = len(bag) == 2 and min(bag) >= 0
            for kind in ("fence", "room", "wants"):
                self.assertIs(well_made(BARE, (kind, [bag])), right)
            self.assertIs(well_made(BARE, ("fall", bag)), len(bag) == 2)
            self.assertIs(well_made(BARE, ("dry", bag)), bag in ([0], [1], [0, 1]))
            self.assertIs(well_made(BARE, ("wet", bag)), bag in ([0], [1], [0, 1]))


class OwnTest(unittest.TestCase):
    def test_what_is_handed_in_stays_as_it_is(self):
        for paper in RIGHT + WRONG:
            check_own(self, well_made, CHAIN, paper)
        rooms = met_by_runs(CHAIN, 60)
        check_own(self, fence_holds, CHAIN, rooms)
        check_own(self, fence_holds, SPRING, [[None, None]])
        check_own(self, room_holds, CHAIN, rooms)
        check_own(self, wants_hold, CHAIN, [0, 0, 3], wants(CHAIN, [0, 0, 3], 60).bags)
        check_own(self, fall_holds, CHAIN, [1, 2, 2])
        check_own(self, sum_holds, CHAIN, [1, 2, 2], 0)
        check_own(self, dry_holds, BARE, [1])
        check_own(self, wet_holds, BARE, [0, 1])
        check_own(self, reasons_hold, RING, [("trap", [0, 1, 2])])

    def test_arguments_have_their_names(self):
        self.assertIs(fence_holds(net=SPRING, marks=[[None, None]]), True)
        self.assertIs(room_holds(net=BARE, rooms=[[4, 0]]), True)
        self.assertIs(wants_hold(net=BARE, goal=[5, 0], bags=[[5, 0]]), True)
        self.assertIs(fall_holds(net=CHAIN, weights=[1, 2, 2]), True)
        self.assertIs(sum_holds(net=CHAIN, weights=[1, 2, 2], part=0), True)
        self.assertIs(dry_holds(net=BARE, bowls=[1]), True)
        self.assertIs(wet_holds(net=BARE, bowls=[0]), True)
        self.assertIs(reasons_hold(net=RING, reasons=[("trap", [0, 1, 2])]), True)
        self.assertIs(well_made(net=BARE, paper=("run", [])), True)


if __name__ == "__main__":
    unittest.main()
