"""[10.2], [0.1], what [9.1] and [9.5] say of the hall's answers, and [0.2] and [0.4] for them."""

import unittest

from beadhall.dues import ceiling_of, price_or_tally
from beadhall.errors import TooWide
from beadhall.examiner import shown
from beadhall.hall import answered
from beadhall.rooms import roomed
from beadhall.stoppers import kept_reasons
from beadhall.sums import accounted
from beadhall.traps import greatest_pit, greatest_trap
from beadhall.tree import grown
from beadhall.wants import wants

from common import Draw, check_kinds, check_own, met_by_runs, net_of

GREAT = 10 ** 200 - 1

BARE = net_of([4, 0], [])
CHAIN = net_of([4, 0, 0], [([2, 0, 0], [0, 1, 0]), ([0, 1, 0], [0, 0, 1])])
SPRING = net_of([0, 0, 2], [([0, 0, 0], [1, 0, 0]), ([1, 0, 0], [0, 1, 0])])
RING = net_of([1, 0, 0], [([1, 0, 0], [0, 1, 0]), ([0, 1, 0], [0, 0, 1]), ([0, 0, 1], [1, 0, 0])])


def pour(many, *more):
    """So many beads that go from the first bowl to the second one by one: one more rooms, and as many nodes."""
    width = 2 + len(more)
    doors = [([1] + [0] * (width - 1), [0, 1] + [0] * (width - 2))]
    first = [many, 0]
    for place, (beads, took, gave) in enumerate(more, start=2):
        first.append(beads)
        doors.append(([took if bowl == place else 0 for bowl in range(width)],
                      [gave if bowl == place else 0 for bowl in range(width)]))
    return net_of(first, doors)


def round_trip(many, *more):
    """The beads are poured and come back all at once, and each time the third bowl gets one."""
    return net_of([many, 0, 0], [([1, 0, 0], [0, 1, 0]), ([0, many, 0], [many, 0, 1])] + list(more))


NODES_60 = round_trip(28, ([0, 28, 1], [0, 28, 1]))
NODES_61 = round_trip(28, ([28, 0, 0], [28, 0, 0]))


def few(call, *handed):
    try:
        return call(*handed)
    except TooWide:
        return None


def lies_under(low, high):
    return all(other is None or one <= other for one, other in zip(low, high))


def covers_told(net, goal):
    """What each of the ways that settle it tells of a goal."""
    told = []
    tree = few(grown, net, 60)
    if tree:
        told.append("yes" if any(lies_under(goal, mark) for mark in tree.marks) else "no")
    found = few(wants, net, goal, 60)
    if found:
        told.append("yes" if any(lies_under(bag, net.first) for bag in found.bags) else "no")
    for bowl, wanted in enumerate(goal):
        due = price_or_tally(net, bowl)
        if due[0] == "price" and wanted > ceiling_of(net, due[1], bowl):
            told.append("no")
    return told


def reach_told(net, beads):
    told = []
    rooms = few(roomed, net, 100)
    if rooms:
        told.append("yes" if beads in rooms.bags else "no")
    told += [answer for answer in covers_told(net, beads) if answer == "no"]
    if accounted(net, beads)[0] == "sum":
        told.append("no")
    dry = greatest_pit(net, [bowl for bowl, has in enumerate(net.first) if has == 0])[0]
    if any(beads[bowl] > 0 for bowl in dry):
        told.append("no")
    wet = greatest_trap(net, [bowl for bowl, has in enumerate(beads) if has == 0])[0]
    if any(net.first[bowl] > 0 for bowl in wet):
        told.append("no")
    return told


def most_told(net, bowl):
    told = []
    tree = few(grown, net, 60)
    if tree:
        numbers = [mark[bowl] for mark in tree.marks]
        told.append("endless" if None in numbers else max(numbers))
    rooms = few(roomed, net, 100)
    if rooms:
        told.append(max(bag[bowl] for bag in rooms.bags))
    return told


def stick_told(net):
    told = []
    rooms = few(roomed, net, 100)
    if rooms:
        stuck = [bag for bag in rooms.bags if not any(lies_under(takes, bag) for takes in net.takes)]
        told.append("yes" if stuck else "no")
    if None not in kept_reasons(net):
        told.append("no")
    return told


def told_of(net, ask):
    if ask[0] == "cover":
        return covers_told(net, ask[1])
    if ask[0] == "ever":
        return covers_told(net, net.takes[ask[1]])
    if ask[0] == "reach":
        return reach_told(net, ask[1])
    return most_told(net, ask[1]) if ask[0] == "most" else stick_told(net)


def gainsaid(net, ask, answer, met, all_met):
    """Whether beads that were met behind runs, perhaps all there are, speak against the answer."""
    if ask[0] == "most":
        highest = max(beads[ask[1]] for beads in met)
        return highest != answer if all_met else answer != "endless" and highest > answer
    seen = {
        "cover": lambda beads: lies_under(ask[1], beads),
        "reach": lambda beads: beads == ask[1],
        "ever": lambda beads: lies_under(net.takes[ask[1]], beads),
        "stick": lambda beads: not any(lies_under(takes, beads) for takes in net.takes)}[ask[0]]
    found = any(seen(beads) for beads in met)
    return found if answer == "no" else all_met and not found


class Asking(unittest.TestCase):
    def asked(self, net, ask):
        """The answer, looked through with its paper; the form of the paper behind it."""
        told = answered(net, ask)
        self.assertEqual((type(told), len(told)), (tuple, 2))
        answer, paper = told
        self.assertIn(type(answer), (str, int))
        if answer == "open":
            self.assertIs(paper, None)
            return ("open", None)
        self.assertIs(shown(net, ask, answer, paper), True, (ask, told))
        return (answer, paper[0])

    def check(self, net, ask, answer):
        self.assertEqual(self.asked(net, ask)[0], answer)

    def check_open(self, net, ask):
        self.assertEqual(answered(net, ask), ("open", None))


class CoverTest(Asking):
    def test_small_nets(self):
        for net, goal, answer in (
                (BARE, [4, 0], "yes"), (BARE, [0, 0], "yes"), (BARE, [4, 1], "no"), (CHAIN, [0, 0, 2], "yes"),
                (CHAIN, [0, 0, 3], "no"), (CHAIN, [1, 2, 0], "no"), (CHAIN, [1, 1, 0], "yes"),
                (SPRING, [GREAT, GREAT, 2], "yes"), (SPRING, [0, 0, 3], "no"), (RING, [1, 1, 0], "no")):
            self.check(net, ("cover", goal), answer)

    def test_wants_60_and_61(self):
        net = pour(200)
        self.assertEqual(len(wants(net, [0, 59], 200).bags), 60)
        self.assertEqual(len(wants(net, [0, 60], 200).bags), 61)
        self.check(net, ("cover", [0, 59]), "yes")
        self.check_open(net, ("cover", [0, 60]))
        self.check(net, ("cover", [199, 59]), "no")
        self.check_open(net, ("cover", [199, 60]))

    def test_nodes_60_and_61(self):
        for net, many in ((NODES_60, 60), (NODES_61, 61), (round_trip(29), 61), (pour(59), 60), (pour(60), 61)):
            self.assertEqual(len(grown(net, 200).marks), many)
        self.check(NODES_60, ("cover", [0, 0, GREAT]), "yes")
        self.check(NODES_60, ("cover", [14, 14, GREAT]), "yes")
        self.check(NODES_60, ("cover", [14, 15, GREAT]), "no")
        for goal in ([0, 0, 100], [14, 14, GREAT], [14, 15, GREAT]):
            self.check_open(NODES_61, ("cover", goal))
            self.check_open(round_trip(29), ("cover", goal))

    def test_a_goal_above_the_ceiling(self):
        net = pour(200)
        self.check_open(net, ("cover", [0, 200]))
        self.check_open(net, ("cover", [200, 200]))
        self.check(net, ("cover", [0, 201]), "no")
        self.check(net, ("cover", [201, 100]), "no")
        self.check(net, ("cover", [GREAT, GREAT]), "no")
        # Rounded down: seven and a half at most.
        net = net_of([150, 0, 0], [([1, 0, 0], [0, 1, 0]), ([0, 20, 0], [0, 0, 1])])
        self.check_open(net, ("cover", [0, 0, 7]))
        self.check(net, ("cover", [0, 0, 8]), "no")


class EverTest(Asking):
    def test_small_nets(self):
        for net, door, answer in (
                (CHAIN, 0, "yes"), (CHAIN, 1, "yes"), (SPRING, 1, "yes"), (RING, 2, "yes"),
                (net_of([1, 0], [([2, 0], [0, 1]), ([0, 1], [2, 0])]), 0, "no"),
                (net_of([1, 0], [([2, 0], [0, 1]), ([0, 1], [2, 0])]), 1, "no")):
            self.check(net, ("ever", door), answer)

    def test_wants_nodes_and_ceilings(self):
        def with_door(many, takes):
            return net_of([many, 0], [([1, 0], [0, 1]), (takes, takes)])
        self.check(with_door(200, [0, 59]), ("ever", 1), "yes")
        self.check_open(with_door(200, [0, 60]), ("ever", 1))
        self.check_open(with_door(200, [0, 200]), ("ever", 1))
        self.check(with_door(200, [0, 201]), ("ever", 1), "no")
        net = round_trip(28, ([0, 28, 100], [0, 28, 100]))
        self.assertEqual(len(grown(net, 60).marks), 60)
        self.assertIs(few(wants, net, net.takes[2], 60), None)
        self.check(net, ("ever", 2), "yes")
        self.check_open(round_trip(29, ([0, 29, 100], [0, 29, 100])), ("ever", 2))


class MostTest(Asking):
    def test_small_nets(self):
        for net, bowl, answer in (
                (BARE, 0, 4), (BARE, 1, 0), (CHAIN, 0, 4), (CHAIN, 1, 2), (CHAIN, 2, 2), (SPRING, 0, "endless"),
                (SPRING, 1, "endless"), (SPRING, 2, 2), (RING, 1, 1)):
            self.check(net, ("most", bowl), answer)

    def test_rooms_100_and_101(self):
        self.assertEqual(len(roomed(pour(99), 100).bags), 100)
        self.assertIs(few(roomed, pour(100), 100), None)
        for bowl in (0, 1):
            self.check(pour(99), ("most", bowl), 99)
            self.check_open(pour(100), ("most", bowl))

    def test_nodes_60_and_61(self):
        for bowl, answer in ((0, 28), (1, 28), (2, "endless")):
            self.check(NODES_60, ("most", bowl), answer)
            self.check_open(NODES_61, ("most", bowl))

    def test_numbers_of_marks_behind_loops(self):
        # The third bowl holds its most behind doors that take from a bowl made endless before.
        net = net_of([0, 1, 0], [([0, 0, 0], [1, 0, 0]), ([500, 1, 0], [0, 0, 7])])
        self.check(net, ("most", 2), 7)
        self.assertIs(few(roomed, net, 100), None)


class StickTest(Asking):
    def test_small_nets(self):
        for net, answer in (
                (BARE, "yes"), (CHAIN, "yes"), (RING, "no"), (SPRING, "no"), (net_of([0], [([1], [2])]), "yes"),
                (net_of([0], [([0], [0])]), "no")):
            self.check(net, ("stick",), answer)

    def test_rooms_100_and_101(self):
        self.check(pour(99), ("stick",), "yes")
        self.check_open(pour(100), ("stick",))
        # The bead of the third bowl goes to and fro, or there is a door that wants two of them.
        for many, took, answer in ((98, 1, "no"), (200, 1, "no"), (98, 2, "yes"), (200, 2, "open")):
            net = pour(many, (1, took, took))
            self.check(net, ("stick",), answer)

    def test_reasons(self):
        net = net_of([200, 0], [([2, 0], [0, 2]), ([0, 2], [2, 0]), ([1, 1], [0, 2])])
        self.assertNotIn(None, kept_reasons(net))
        self.assertEqual(self.asked(net, ("stick",)), ("no", "kept"))
        self.assertEqual(self.asked(SPRING, ("stick",)), ("no", "kept"))
        # One reason of two is lacking.
        net = net_of([200, 200], [([1, 2], [1, 1])])
        self.assertEqual([reason is None for reason in kept_reasons(net)], [False, True])
        self.check_open(net, ("stick",))


class ReachTest(Asking):
    def test_small_nets(self):
        for net, beads, answer in (
                (BARE, [4, 0], "yes"), (BARE, [3, 0], "no"), (CHAIN, [0, 1, 1], "yes"), (CHAIN, [0, 1, 0], "no"),
                (SPRING, [0, 0, 3], "no"), (SPRING, [0, 0, 1], "no"), (RING, [0, 0, 1], "yes"),
                (RING, [0, 0, 0], "no")):
            self.check(net, ("reach", beads), answer)

    def test_open(self):
        self.check_open(SPRING, ("reach", [0, 0, 2]))
        self.check_open(SPRING, ("reach", [3, GREAT, 2]))
        self.check_open(pour(200), ("reach", [200, 0]))

    def test_rooms_100_and_101(self):
        self.check(pour(99), ("reach", [9, 90]), "yes")
        self.check(pour(99), ("reach", [9, 91]), "no")
        self.check_open(pour(100), ("reach", [10, 90]))
        self.check_open(pour(100), ("reach", [100, 0]))

    def test_beads_that_are_not_covered(self):
        self.check(pour(100), ("reach", [0, 101]), "no")
        self.check(pour(100), ("reach", [50, 51]), "no")

    def test_sum(self):
        net = pour(100)
        self.assertEqual(covers_told(net, [20, 90]), [])
        self.check(net, ("reach", [20, 90]), "no")
        self.assertEqual(self.asked(net, ("reach", [20, 79])), ("no", "sum"))
        # With a part from 2 on: the first bowl stays even, and the second is a multiple of three.
        net = net_of([300, 0], [([2, 0], [0, 3]), ([0, 2], [2, 2])])
        for beads, part in (([101, 201], 2), ([102, 200], 3)):
            self.assertNotIn("no", covers_told(net, beads))
            self.assertEqual(accounted(net, beads)[2], part)
            self.assertEqual(self.asked(net, ("reach", beads)), ("no", "sum"))
        self.check_open(net, ("reach", [102, 201]))

    def test_pit(self):
        # The third bowl would be filled from itself, but it is empty.
        net = pour(100, (0, 1, 2))
        self.assertEqual((covers_told(net, [10, 90, 1]), accounted(net, [10, 90, 1])[0]), ([], "tally"))
        self.assertEqual(self.asked(net, ("reach", [10, 90, 1])), ("no", "dry"))
        self.check_open(net, ("reach", [10, 90, 0]))
        net = pour(100, (1, 1, 2))
        self.check_open(net, ("reach", [10, 90, 1]))
        # Among the empty bowls is one that can be filled from elsewhere; the pit within them is what counts.
        self.assertEqual(greatest_pit(pour(100, (0, 1, 2)), [1, 2])[0], [2])

    def test_trap(self):
        # The third bowl is emptied but for one bead.
        net = pour(100, (5, 2, 1))
        self.assertEqual((covers_told(net, [10, 90, 0]), accounted(net, [10, 90, 0])[0]), ([], "tally"))
        self.assertEqual(self.asked(net, ("reach", [10, 90, 0])), ("no", "wet"))
        self.check_open(net, ("reach", [10, 90, 1]))
        # Two bowls without a bead in what is asked, of which one alone is a trap.
        self.assertEqual(self.asked(pour(100, (5, 2, 1)), ("reach", [0, 100, 0])), ("no", "wet"))
        net = pour(100, (0, 2, 1))
        self.check_open(net, ("reach", [10, 90, 0]))


class ManyNetsTest(Asking):
    def drawn_nets(self):
        draw = Draw(281)
        for _ in range(35):
            yield draw.net(draw.number(1, 4), draw.number(0, 4), draw.number(1, 3))
            yield draw.moving_net(draw.number(1, 4), draw.number(1, 4), draw.number(1, 2))
            yield draw.keeping_net(draw.number(2, 4), draw.number(2, 4), draw.number(5, 120), draw.number(1, 2))
            yield draw.keeping_net(draw.number(2, 3), draw.number(2, 4), 120, draw.number(60, 90))

    def asks(self, draw, net):
        bowls = len(net.bowls)
        goals = [draw.bag(bowls, 0, 3), draw.sparse(bowls, 40), met_by_runs(net, 30)[-1]]
        return [(kind, goal) for kind in ("cover", "reach") for goal in goals] + [("stick",)] + [
            ("most", bowl) for bowl in range(bowls)] + [("ever", door) for door in range(len(net.doors))]

    def test_answers_are_what_is_so(self):
        draw = Draw(282)
        seen = {}
        for net in self.drawn_nets():
            met = met_by_runs(net, 60)
            for ask in self.asks(draw, net):
                told = set(told_of(net, ask))
                self.assertLessEqual(len(told), 1)
                answer, form = self.asked(net, ask)
                self.assertEqual({answer} if answer != "open" else set(), told, (vars(net), ask))
                if answer != "open":
                    self.assertFalse(gainsaid(net, ask, answer, met, len(met) < 60))
                key = (ask[0], "number" if type(answer) is int else answer)
                seen[key] = seen.get(key, 0) + 1
        for kind in ("cover", "reach", "stick", "ever"):
            for answer in ("yes", "no", "open"):
                self.assertGreater(seen.get((kind, answer), 0), 2, (kind, answer))
        for answer in ("number", "endless", "open"):
            self.assertGreater(seen[("most", answer)], 5)


class OwnTest(unittest.TestCase):
    def asks(self, net):
        width = len(net.bowls)
        goals = [[0] * width, list(net.first), [7] * width, [GREAT] * width]
        return [(kind, goal) for kind in ("cover", "reach") for goal in goals] + [("stick",)] + [
            ("most", bowl) for bowl in range(width)] + [("ever", door) for door in range(len(net.doors))]

    def test_what_is_told_is_the_askers_own(self):
        for net in (BARE, CHAIN, SPRING, RING, NODES_60, pour(200), pour(100, (5, 2, 1)), pour(100, (0, 1, 2))):
            for ask in self.asks(net):
                check_own(self, answered, net, ask)

    def test_kinds(self):
        for net in (BARE, CHAIN, SPRING, RING, NODES_60, pour(200)):
            for ask in self.asks(net):
                check_kinds(self, answered(net, ask))

    def test_arguments_have_their_names(self):
        self.assertEqual(answered(net=BARE, ask=("stick",))[0], "yes")


if __name__ == "__main__":
    unittest.main()
