"""[9.1], [9.4], [9.5], and [0.2] and [0.4] for the examiner."""

import unittest

from beadhall.blocks import packed
from beadhall.dues import price_or_tally
from beadhall.errors import TooWide
from beadhall.examiner import shown
from beadhall.stoppers import kept_reasons
from beadhall.sums import accounted, sums
from beadhall.tree import fence, grown, way_to
from beadhall.wants import wants

from common import Draw, box, check_own, met_by_runs, net_of, sets_of
from test_papers import WRONG

GREAT = 10 ** 999
ANSWERS = ["yes", "no", "open", "endless", 0, 1, 2, 3, 4, -1, GREAT, "", "maybe"]

BARE = net_of([4, 0], [])
# Two of the first bowl for one of the second, and one of the second for one of the third.
CHAIN = net_of([4, 0, 0], [([2, 0, 0], [0, 1, 0]), ([0, 1, 0], [0, 0, 1])])
CHAIN_ROOM = [[4, 0, 0], [2, 1, 0], [0, 2, 0], [2, 0, 1], [0, 1, 1], [0, 0, 2]]
# The first bowl is filled for nothing, and the second from it; the third stays as it is.
SPRING = net_of([0, 0, 2], [([0, 0, 0], [1, 0, 0]), ([1, 0, 0], [0, 1, 0])])
LOOP = [(0, [0])]
LOOPS = [(0, [0]), (1, [1])]
# One bead that goes round three bowls.
RING = net_of([1, 0, 0], [([1, 0, 0], [0, 1, 0]), ([0, 1, 0], [0, 0, 1]), ([0, 0, 1], [1, 0, 0])])
RING_ROOM = [[1, 0, 0], [0, 1, 0], [0, 0, 1]]
# Nothing comes into the second bowl; what is in the first or the third stays there.
SHUT = net_of([3, 0, 1], [([1, 0, 0], [0, 0, 1]), ([0, 1, 0], [0, 2, 0]), ([0, 0, 2], [1, 0, 1])])


class ShownTest(unittest.TestCase):
    def check(self, net, ask, answer, paper, wanted=True):
        """The paper shows this answer, or it doesn't; no other answer is shown by it."""
        self.assertIs(shown(net, ask, answer, paper), wanted, (ask, answer, paper))
        for other in ANSWERS:
            if other != answer:
                self.assertIs(shown(net, ask, other, paper), False, (ask, other, paper))

    def check_not(self, net, ask, answer, paper):
        self.check(net, ask, answer, paper, False)


class CoverTest(ShownTest):
    def test_run(self):
        for blocks, goal, wanted in (
                ([], [4, 0, 0], True), ([], [3, 0, 0], True), ([], [5, 0, 0], False), ([], [0, 1, 0], False),
                ([(2, [0])], [0, 2, 0], True), ([(2, [0])], [1, 2, 0], False), ([(2, [0, 1])], [0, 0, 2], True),
                ([(2, [0]), (1, [1])], [0, 1, 1], True), ([(3, [0])], [0, 0, 0], False),
                ([(1, [1])], [0, 0, 0], False), ([(GREAT, [])], [4, 0, 0], True)):
            self.check(CHAIN, ("cover", goal), "yes", ("run", blocks), wanted)
        self.check(SPRING, ("cover", [0, GREAT, 2]), "yes", ("run", [(GREAT, [0, 1])]))
        self.check_not(SPRING, ("cover", [0, GREAT + 1, 2]), "yes", ("run", [(GREAT, [0, 1])]))

    def test_branch(self):
        for branch, goal, wanted in (
                ([], [0, 0, 2], True), ([], [1, 0, 2], False), (LOOP, [GREAT, 0, 2], True),
                (LOOP, [0, 1, 0], False), (LOOPS, [GREAT, GREAT, 2], True), (LOOPS, [0, 0, 3], False),
                ([(0, [])], [1, 0, 0], True), ([(0, [])], [2, 0, 0], False), ([(1, [])], [0, 0, 0], False),
                ([(0, [1])], [0, 0, 0], False), ([(0, [-1])], [0, 0, 0], False), ([(0, [GREAT])], [0, 0, 0], False),
                ([(0, [0, 0])], [0, 0, 0], False)):
            self.check(SPRING, ("cover", goal), "yes", ("branch", branch), wanted)

    def test_fence(self):
        for marks, goal, wanted in (
                ([[None, None, 2]], [0, 0, 3], True), ([[None, None, 2]], [0, 0, 2], False),
                ([[None, None, 2]], [GREAT, GREAT, 0], False), ([[None, None, 5]], [0, 0, 3], False),
                ([[None, None, 1]], [0, 0, 3], False), ([[None, 9, 2]], [0, 0, 3], False), ([], [0, 0, 3], False),
                ([[None, None, 2], [0, 0, 3]], [0, 0, 3], False),
                ([[None, None, 2], [0, 0, 4]], [0, 0, 5], False),
                ([[None, None, 2], [None, None, 4]], [0, 0, 5], True)):
            self.check(SPRING, ("cover", goal), "no", ("fence", marks), wanted)

    def test_room(self):
        for rooms, goal, wanted in (
                (CHAIN_ROOM, [0, 0, 3], True), (CHAIN_ROOM, [1, 2, 0], True), (CHAIN_ROOM, [0, 0, 2], False),
                (CHAIN_ROOM, [1, 1, 0], False), (CHAIN_ROOM[:-1], [0, 0, 3], False), (CHAIN_ROOM[1:], [0, 0, 3], False),
                (CHAIN_ROOM + [[0, 0, 3]], [0, 0, 3], False), ([], [0, 0, 3], False)):
            self.check(CHAIN, ("cover", goal), "no", ("room", rooms), wanted)

    def test_wants(self):
        bags = wants(CHAIN, [0, 0, 3], 60).bags
        self.check(CHAIN, ("cover", [0, 0, 3]), "no", ("wants", bags))
        self.check(CHAIN, ("cover", [7, 0, 3]), "no", ("wants", bags))
        self.check_not(CHAIN, ("cover", [0, 0, 2]), "no", ("wants", bags))
        self.check_not(CHAIN, ("cover", [3, 0, 1]), "no", ("wants", bags))
        for place in range(len(bags)):
            self.check_not(CHAIN, ("cover", [0, 0, 3]), "no", ("wants", bags[:place] + bags[place + 1:]))
        self.check_not(CHAIN, ("cover", [0, 0, 2]), "no", ("wants", wants(CHAIN, [0, 0, 2], 60).bags))

    def test_fall(self):
        for weights, goal, wanted in (
                ([1, 2, 2], [0, 0, 3], True), ([1, 2, 2], [1, 0, 2], True), ([1, 2, 2], [0, 0, 2], False),
                ([1, 2, 3], [9, 9, 9], False), ([1, 2, -1], [9, 0, 0], False), ([0, 0, 0], [9, 9, 9], False),
                ([1, 1, 1], [0, 0, 3], False), ([1, 1, 1], [0, 0, 5], True),
                ([1, 0, 0], [5, 0, 0], True), ([1, 0, 0], [4, 9, 9], False)):
            self.check(CHAIN, ("cover", goal), "no", ("fall", weights), wanted)

    def test_dry(self):
        for bowls, goal, wanted in (
                ([1], [0, 1, 0], True), ([1], [9, 0, 9], False), ([], [0, 1, 0], False), ([0], [5, 0, 0], False),
                ([0, 1], [0, 1, 0], False), ([0, 1, 2], [9, 9, 9], False), ([1, 2], [0, 1, 0], False)):
            self.check(SHUT, ("cover", goal), "no", ("dry", bowls), wanted)

    def test_papers_that_show_nothing_here(self):
        for paper in (
                ("sum", [1, 2, 2], 0), ("sum", [1, 0, 0], 2), ("wet", [0, 1, 2]), ("kept", []),
                ("kept", kept_reasons(CHAIN)), ("most", [], ("fall", [1, 2, 2])), ("most", [], ("room", CHAIN_ROOM))):
            for goal in ([0, 0, 0], [0, 0, 3], [GREAT, 0, 0]):
                self.check_not(CHAIN, ("cover", goal), "yes", paper)


class ReachTest(ShownTest):
    def test_run(self):
        for blocks, beads, wanted in (
                ([], [4, 0, 0], True), ([], [3, 0, 0], False), ([(2, [0])], [0, 2, 0], True),
                ([(2, [0])], [0, 1, 0], False), ([(1, [0, 1])], [2, 0, 1], True), ([(3, [0])], [0, 0, 0], False)):
            self.check(CHAIN, ("reach", beads), "yes", ("run", blocks), wanted)

    def test_a_branch_shows_nothing(self):
        self.check_not(SPRING, ("reach", [0, 0, 2]), "yes", ("branch", []))
        self.check_not(SPRING, ("reach", [1, 0, 2]), "yes", ("branch", [(0, [])]))
        self.check_not(SPRING, ("reach", [5, 0, 2]), "yes", ("branch", LOOP))

    def test_whatever_shows_that_they_cannot_be_covered(self):
        bags = wants(CHAIN, [0, 0, 3], 60).bags
        for paper in (("fence", CHAIN_ROOM), ("room", CHAIN_ROOM), ("wants", bags), ("fall", [1, 2, 2])):
            self.check(CHAIN, ("reach", [0, 0, 3]), "no", paper)
            self.check_not(CHAIN, ("reach", [0, 0, 2]), "no", paper)
        for paper in (("fence", CHAIN_ROOM), ("wants", bags), ("fall", [1, 2, 2])):
            self.check_not(CHAIN, ("reach", [0, 0, 1]), "no", paper)
        self.check(SHUT, ("reach", [0, 1, 1]), "no", ("dry", [1]))
        self.check_not(SHUT, ("reach", [1, 0, 1]), "no", ("dry", [1]))
        self.check(SPRING, ("reach", [0, 0, 3]), "no", ("fence", [[None, None, 2]]))

    def test_room(self):
        for rooms, beads, wanted in (
                (CHAIN_ROOM, [0, 0, 1], True), (CHAIN_ROOM, [3, 0, 0], True), (CHAIN_ROOM, [0, 1, 1], False),
                (CHAIN_ROOM[:-1], [0, 0, 1], False), (CHAIN_ROOM + [[0, 0, 1]], [0, 0, 1], False),
                (CHAIN_ROOM + [[0, 0, 1]], [0, 0, 0], True)):
            self.check(CHAIN, ("reach", beads), "no", ("room", rooms), wanted)

    def test_fall_of_any_weights(self):
        for weights, beads, wanted in (
                ([-1, -2, -2], [0, 0, 1], True), ([-1, -2, -2], [4, 0, 0], False), ([-1, -2, -2], [5, 0, 0], False),
                ([0, -1, -1], [3, 0, 0], False), ([1, 0, 0], [5, 0, 0], True), ([1, 0, -1], [4, 0, 0], False),
                ([-1, 0, 0], [3, 0, 0], False), ([0, 0, 0], [3, 0, 0], False)):
            self.check(CHAIN, ("reach", beads), "no", ("fall", weights), wanted)

    def test_sum(self):
        for weights, part, beads, wanted in (
                ([1, 2, 2], 0, [3, 0, 0], True), ([1, 2, 2], 0, [0, 0, 3], True), ([1, 2, 2], 0, [0, 0, 2], False),
                ([1, 2, 2], 0, [2, 1, 0], False), ([1, 2, 3], 0, [3, 0, 0], False), ([1, 0, 0], 2, [3, 0, 0], True),
                ([1, 0, 0], 2, [2, 0, 0], False), ([1, 0, 0], 2, [6, 0, 0], False), ([1, 2, 2], 1, [3, 0, 0], False),
                ([1, 2, 2], -2, [3, 0, 0], False), ([1, 2, 2], 3, [1, 0, 0], False), ([1, 2, 2], 3, [0, 0, 0], True),
                ([-1, -2, -2], 0, [3, 0, 0], True), ([0, 1, 0], 2, [4, 1, 0], False), ([1, 0, 0], 0, [3, 0, 0], False)):
            self.check(CHAIN, ("reach", beads), "no", ("sum", weights, part), wanted)

    def test_wet(self):
        for bowls, beads, wanted in (
                ([0, 2], [0, 0, 0], True), ([0, 2], [0, 9, 0], True), ([0, 2], [0, 0, 1], False),
                ([2], [3, 0, 0], True), ([2], [3, 0, 1], False), ([0], [0, 0, 4], False), ([1], [0, 0, 0], False),
                ([], [0, 0, 0], False)):
            self.check(SHUT, ("reach", beads), "no", ("wet", bowls), wanted)

    def test_papers_that_show_nothing_here(self):
        for paper in (
                ("branch", []), ("kept", []), ("kept", kept_reasons(CHAIN)), ("most", [], ("fall", [1, 2, 2])),
                ("dry", [0]), ("most", [], ("room", CHAIN_ROOM))):
            for beads in ([4, 0, 0], [0, 0, 3], [0, 0, 1]):
                self.check_not(CHAIN, ("reach", beads), "yes", paper)


class MostTest(ShownTest):
    def test_fence(self):
        for blocks, marks, bowl, answer, wanted in (
                ([], [[None, None, 2]], 2, 2, True), ([], [[None, None, 3]], 2, 2, False),
                ([], [[None, None, 1]], 2, 2, False),
                ([(1, [0])], [[None, None, 2]], 2, 2, True), ([(1, [1])], [[None, None, 2]], 2, 2, False),
                ([], [[None, None, None]], 2, 2, False), ([], [[None, None, 2]], 0, 0, False),
                ([], [[None, 5, 2]], 2, 2, False), ([], [[None, None, 2], [0, 0, 1]], 2, 2, True),
                ([], [[None, None, 2], [None, None, 7]], 2, 2, False), ([], [], 2, 2, False)):
            self.check(SPRING, ("most", bowl), answer, ("most", blocks, ("fence", marks)), wanted)

    def test_room(self):
        for blocks, rooms, bowl, answer, wanted in (
                ([(2, [0, 1])], CHAIN_ROOM, 2, 2, True), ([(1, [0, 1])], CHAIN_ROOM, 2, 1, False),
                ([], CHAIN_ROOM, 0, 4, True), ([(2, [0])], CHAIN_ROOM, 1, 2, True),
                ([(3, [0])], CHAIN_ROOM, 1, 2, False), ([], CHAIN_ROOM[:-1], 0, 4, False),
                ([(2, [0])], CHAIN_ROOM[:-1], 1, 2, False), ([], CHAIN_ROOM + [[0, 0, 9]], 0, 4, True),
                ([(2, [0, 1])], CHAIN_ROOM + [[0, 0, 9]], 2, 2, False)):
            self.check(CHAIN, ("most", bowl), answer, ("most", blocks, ("room", rooms)), wanted)

    def test_fall(self):
        for blocks, weights, bowl, answer, wanted in (
                ([(2, [0, 1])], [1, 2, 2], 2, 2, True), ([(2, [0])], [1, 2, 2], 1, 2, True),
                ([(2, [0])], [2, 3, 3], 1, 2, True), ([(2, [0])], [1, 1, 1], 1, 2, False),
                ([(1, [0])], [1, 2, 2], 1, 1, False),
                ([], [1, 0, 0], 0, 4, True), ([], [1, 0, -1], 0, 4, False), ([], [0, 0, 0], 0, 4, False),
                ([(2, [0, 1])], [1, 2, 0], 2, 2, False), ([], [1, 2, 3], 0, 4, False),
                ([(2, [0])], [2, 4, 3], 1, 2, True), ([], [-1, -2, -2], 0, 4, False)):
            self.check(CHAIN, ("most", bowl), answer, ("most", blocks, ("fall", weights)), wanted)

    def test_the_falls_weight_is_rounded_down(self):
        for first, answer, wanted in ((4, 2, True), (5, 2, True), (5, 1, False), (3, 1, True)):
            net = net_of([first, 0], [([2, 0], [0, 1])])
            self.check(net, ("most", 1), answer, ("most", [(answer, [0])], ("fall", [1, 2])), wanted)

    def test_endless(self):
        for branch, bowl, wanted in (
                (LOOP, 0, True), (LOOP, 1, False), (LOOPS, 1, True), (LOOPS, 0, True), (LOOPS, 2, False),
                ([], 0, False), ([(0, [])], 0, False), ([(0, [0]), (1, [0])], 1, True), ([(0, [7])], 0, False)):
            self.check(SPRING, ("most", bowl), "endless", ("branch", branch), wanted)

    def test_papers_that_show_nothing_here(self):
        for paper in (
                ("run", []), ("fence", CHAIN_ROOM), ("room", CHAIN_ROOM), ("fall", [1, 2, 2]), ("sum", [1, 2, 2], 0),
                ("wants", wants(CHAIN, [0, 0, 3], 60).bags), ("dry", []), ("wet", [0, 1, 2]), ("kept", [])):
            for bowl in range(3):
                self.check_not(CHAIN, ("most", bowl), 4, paper)

    def test_great_numbers(self):
        net = net_of([1, 0], [([1, 0], [1, 1]), ([0, 1], [0, 0])])
        self.check_not(net, ("most", 1), GREAT, ("most", [(GREAT, [0])], ("fall", [1, 0])))
        self.check_not(net, ("most", 1), GREAT, ("most", [(GREAT, [0])], ("fence", [[1, None]])))
        self.check(net, ("most", 0), 1, ("most", [(GREAT, [0])], ("fence", [[1, None]])))


class StickTest(ShownTest):
    def test_run(self):
        for net, blocks, wanted in (
                (CHAIN, [(2, [0, 1])], True), (CHAIN, [(2, [0])], False), (CHAIN, [], False), (BARE, [], True),
                (BARE, [(5, [])], True), (CHAIN, [(3, [0, 1])], False), (RING, [(2, [0, 1, 2])], False)):
            self.check(net, ("stick",), "yes", ("run", blocks), wanted)

    def test_reasons(self):
        for net, reasons, wanted in (
                (RING, [("trap", [0, 1, 2])], True), (RING, [("weight", [1, 1, 1])], True), (RING, [None], False),
                (RING, [], False), (SPRING, [], True), (SPRING, [None], False), (BARE, [None], False),
                (BARE, [], False), (CHAIN, kept_reasons(CHAIN), False)):
            self.check(net, ("stick",), "no", ("kept", reasons), wanted)

    def test_room(self):
        for net, rooms, wanted in (
                (RING, RING_ROOM, True), (RING, RING_ROOM[1:], False), (RING, RING_ROOM + [[0, 0, 0]], False),
                (CHAIN, CHAIN_ROOM, False), (CHAIN, CHAIN_ROOM[:-1], False), (BARE, [[4, 0]], False)):
            self.check(net, ("stick",), "no", ("room", rooms), wanted)

    def test_papers_that_show_nothing_here(self):
        for paper in (
                ("branch", []), ("fence", RING_ROOM), ("fall", [1, 1, 1]), ("sum", [1, 1, 1], 0), ("dry", []),
                ("wet", [0, 1, 2]), ("most", [], ("fence", RING_ROOM)), ("wants", [[2, 0, 0]]), ("run", [])):
            self.check_not(RING, ("stick",), "no", paper)
        self.check_not(BARE, ("stick",), "yes", ("branch", []))


class EverTest(ShownTest):
    def test_run(self):
        for blocks, door, wanted in (
                ([], 0, True), ([], 1, False), ([(1, [0])], 1, True), ([(2, [0])], 0, False), ([(2, [0])], 1, True),
                ([(3, [0])], 1, False)):
            self.check(CHAIN, ("ever", door), "yes", ("run", blocks), wanted)

    def test_branch(self):
        for branch, door, wanted in (
                ([], 0, True), ([], 1, False), (LOOP, 1, True), ([(0, [])], 1, True), ([(1, [])], 1, False),
                (LOOPS, 0, True), ([(0, [1])], 1, False)):
            self.check(SPRING, ("ever", door), "yes", ("branch", branch), wanted)

    def test_no(self):
        rest = [[1, 0, 0], [0, 1, 0], [0, 0, 1]]
        net = net_of([1, 0, 0], [([1, 0, 0], [0, 1, 0]), ([0, 1, 0], [0, 0, 1]), ([0, 0, 2], [0, 0, 2])])
        bags = wants(net, [0, 0, 2], 60).bags
        for paper, wanted in (
                (("fence", rest), True), (("fence", rest[:2]), False), (("room", rest), True),
                (("room", rest[1:]), False),
                (("wants", bags), True), (("wants", bags[1:]), False), (("fall", [1, 1, 1]), True),
                (("fall", [-1, -1, -1]), False), (("fall", [2, 1, 1]), False), (("fall", [1, 1, 2]), False),
                (("dry", []), False), (("sum", [1, 1, 1], 0), False), (("wet", [0, 1, 2]), False),
                (("kept", [None]), False), (("most", [], ("room", rest)), False)):
            self.check(net, ("ever", 2), "no", paper, wanted)
            self.check_not(net, ("ever", 0), "no", paper)
        self.check(SHUT, ("ever", 1), "no", ("dry", [1]))
        self.check_not(SHUT, ("ever", 0), "no", ("dry", [1]))


class NothingShownTest(unittest.TestCase):
    def asks(self, net):
        beads = [[0] * len(net.bowls), list(net.first), [9] * len(net.bowls)]
        return [(kind, bag) for kind in ("cover", "reach") for bag in beads] + [("stick",)] + [
            ("most", bowl) for bowl in range(len(net.bowls))] + [("ever", door) for door in range(len(net.doors))]

    def test_the_paper_none(self):
        for net in (BARE, CHAIN, SPRING, RING):
            for ask in self.asks(net):
                for answer in ANSWERS:
                    self.assertIs(shown(net, ask, answer, None), False)

    def test_papers_that_are_not_rightly_made(self):
        for ask in self.asks(CHAIN):
            for answer in ANSWERS:
                for paper in WRONG:
                    self.assertIs(shown(CHAIN, ask, answer, paper), False)

    def test_what_would_be_shown_but_for_how_it_is_made(self):
        for ask, answer, right, wrong in (
                (("cover", [4, 0, 0]), "yes", ("run", [(0, [1])]), ("run", [(0, [2])])),
                (("cover", [4, 0, 0]), "yes", ("run", [(0, [])]), ("run", [(-1, [])])),
                (("cover", [2, 0, 1]), "yes", ("run", [(1, [0, 1])]), ("run", [(1, [0, -1])])),
                (("cover", [2, 1, 0]), "yes", ("branch", [(0, [])]), ("branch", [(-2, [])])),
                (("cover", [0, 0, 3]), "no", ("fence", CHAIN_ROOM), ("fence", CHAIN_ROOM + [[-1, 0, 0]])),
                (("cover", [0, 0, 3]), "no", ("room", CHAIN_ROOM), ("room", CHAIN_ROOM + [[-1, 0, 0]])),
                (("reach", [0, 0, 1]), "no", ("wet", [0, 1, 2]), ("wet", [1, 0, 2])),
                (("most", 0), 4, ("most", [], ("fall", [1, 2, 2])), ("most", [(-1, [])], ("fall", [1, 2, 2])))):
            if right[0] != "wet":
                self.assertIs(shown(CHAIN, ask, answer, right), True, right)
            self.assertIs(shown(CHAIN, ask, answer, wrong), False, wrong)
        for bowls, wanted in (
                ([0, 2], True), ([2, 0], False), ([0, 0, 2], False), ([0, -1], False), ([0, 2, 3], False)):
            self.assertIs(shown(SHUT, ("reach", [0, 0, 0]), "no", ("wet", bowls)), wanted)
        for bowls, wanted in (([1], True), ([1, 1], False), ([-2], False), ([1, 3], False)):
            self.assertIs(shown(SHUT, ("cover", [0, 1, 0]), "no", ("dry", bowls)), wanted)
        for bowls, wanted in (([0, 1, 2], True), ([2, 1, 0], False), ([0, 1, 2, 2], False), ([0, 1, -1], False)):
            self.assertIs(shown(RING, ("stick",), "no", ("kept", [("trap", bowls)])), wanted)


class Maker:
    """Papers of all forms for a net: some that hold, and others drawn."""

    def __init__(self, draw, net):
        self.draw = draw
        self.net = net
        self.met = met_by_runs(net, 40)
        self.bowls = len(net.bowls)
        self.doors = len(net.doors)
        try:
            self.tree = grown(net, 40)
        except TooWide:
            self.tree = None

    def blocks(self):
        if not self.doors:
            return []
        return [(self.draw.number(0, 2), self.draw.row(self.net, self.draw.number(0, 3)))
                for _ in range(self.draw.number(0, 3))]

    def mark(self):
        return [None if self.draw.number(0, 3) == 0 else self.draw.number(0, 3) for _ in range(self.bowls)]

    def runs(self):
        return [("run", self.blocks()) for _ in range(8)]

    def branches(self):
        found = []
        if self.tree:
            found = [("branch", way_to(self.tree, node)) for node in range(len(self.tree.marks))][:8]
        for _ in range(4 if self.doors else 0):
            row = self.draw.row(self.net, self.draw.number(0, 3))
            found.append(("branch", [(door, [0] if self.draw.number(0, 1) else []) for door in row]))
        return found

    def bounds(self):
        """Fences, rooms and falls."""
        met = self.met
        found = [("fence", [self.mark() for _ in range(self.draw.number(0, 3))]) for _ in range(3)]
        found += [("fence", met), ("fence", [[None] * self.bowls])]
        found += [("room", met), ("room", met[:-1]), ("room", met[1:])]
        if self.tree:
            marks = fence(self.tree)
            found += [("fence", marks), ("fence", marks[1:]), ("fence", marks[:-1])]
        for bowl in range(self.bowls):
            told = price_or_tally(self.net, bowl)
            if told[0] == "price":
                found.append(("fall", told[1]))
        for _, weights in sums(self.net):
            found += [("fall", weights), ("fall", [-weight for weight in weights])]
        return found + [("fall", self.draw.bag(self.bowls, -1, 2)) for _ in range(6)]

    def others(self, goals):
        found = [(kind, bowls) for kind in ("dry", "wet") for bowls in sets_of(range(self.bowls))]
        found += [("sum", self.draw.bag(self.bowls, -1, 2), part) for part in range(-1, 4)]
        found += [("sum", weights, part) for _, weights in sums(self.net) for part in range(4)]
        found += [told for told in [accounted(self.net, goal) for goal in goals] if told[0] == "sum"]
        found += [("kept", []), ("kept", [None]), ("kept", kept_reasons(self.net))]
        found += [("kept", [("weight", self.draw.sparse(self.bowls, 2))]) for _ in range(4)]
        for goal in goals:
            try:
                bags = wants(self.net, goal, 40).bags
            except TooWide:
                continue
            found += [("wants", bags), ("wants", bags[1:]), ("wants", bags[:-1])]
        return found

    def papers(self, goals):
        bounds = self.bounds()
        # Runs to beads that have most in some bowl make papers of the most kind that hold.
        runs = [paper[1] for paper in self.runs()] + [[], packed(self.longest())]
        found = self.runs() + self.branches() + bounds + self.others(goals)
        return found + [("most", blocks, bound) for blocks in runs for bound in bounds]

    def longest(self):
        """A row of doors to the last beads that were met."""
        ways = {tuple(self.net.first): []}
        for beads in self.met:
            for door, (takes, gives) in enumerate(zip(self.net.takes, self.net.gives)):
                if all(has >= took for has, took in zip(beads, takes)):
                    after = tuple(has - took + gave for has, took, gave in zip(beads, takes, gives))
                    ways.setdefault(after, ways[tuple(beads)] + [door])
        return ways[tuple(self.met[-1])]


class SoundTest(unittest.TestCase):
    """[9.5]"""

    def answers(self, net, ask):
        return ["yes", "no"] if ask[0] != "most" else ["endless"] + list(range(8))

    def gainsaid(self, net, ask, answer, met, all_met):
        """Whether the beads that were met, perhaps all there are, speak against the answer."""
        if ask[0] == "most":
            highest = max(beads[ask[1]] for beads in met)
            return highest != answer if all_met else answer != "endless" and highest > answer
        found = {
            "cover": lambda beads: all(has >= wanted for has, wanted in zip(beads, ask[1])),
            "reach": lambda beads: beads == ask[1],
            "ever": lambda beads: all(has >= took for has, took in zip(beads, net.takes[ask[1]])),
            "stick": lambda beads: not any(
                all(has >= took for has, took in zip(beads, takes)) for takes in net.takes)}[ask[0]]
        seen = any(found(beads) for beads in met)
        return seen if answer == "no" else all_met and not seen

    def test_no_two_unlike_answers_and_no_run_gainsays(self):
        draw = Draw(261)
        seen = {}
        for number in range(90):
            if number % 2:
                net = draw.net(draw.number(1, 3), draw.number(0, 3), draw.number(1, 2))
            else:
                net = draw.moving_net(draw.number(1, 3), draw.number(1, 3), draw.number(1, 2))
            maker = Maker(draw, net)
            goals = box(len(net.bowls), 3)
            goals = [goals[draw.number(0, len(goals) - 1)] for _ in range(3)]
            papers = maker.papers(goals)
            asks = [(kind, goal) for kind in ("cover", "reach") for goal in goals] + [("stick",)]
            asks += [("most", bowl) for bowl in range(len(net.bowls))]
            asks += [("ever", door) for door in range(len(net.doors))]
            for ask in asks:
                told = set()
                for answer in self.answers(net, ask):
                    for paper in papers:
                        if shown(net, ask, answer, paper):
                            told.add(answer)
                            key = (ask[0], "number" if isinstance(answer, int) else answer, paper[0])
                            seen[key] = seen.get(key, 0) + 1
                self.assertLessEqual(len(told), 1, (vars(net), ask))
                for answer in told:
                    self.assertFalse(self.gainsaid(net, ask, answer, maker.met, len(maker.met) < 40), (vars(net), ask))
        for key in (
                [("cover", "yes", form) for form in ("run", "branch")]
                + [("cover", "no", form) for form in ("fence", "room", "wants", "fall", "dry")]
                + [("reach", "yes", "run")]
                + [("reach", "no", form) for form in ("fence", "room", "wants", "fall", "dry", "sum", "wet")]
                + [("most", "number", "most"), ("most", "endless", "branch"), ("stick", "yes", "run")]
                + [("stick", "no", form) for form in ("kept", "room")]
                + [("ever", "yes", form) for form in ("run", "branch")]
                + [("ever", "no", form) for form in ("fence", "room", "wants", "fall", "dry")]):
            self.assertGreater(seen.pop(key, 0), 2, key)
        self.assertEqual(seen, {})


class OwnTest(unittest.TestCase):
    def test_what_is_handed_in_stays_as_it_is(self):
        papers = [
            ("run", [(2, [0, 1])]), ("branch", [(0, [])]), ("fence", [list(beads) for beads in CHAIN_ROOM]),
            ("room", [list(beads) for beads in CHAIN_ROOM]), ("wants", wants(CHAIN, [0, 0, 3], 60).bags),
            ("fall", [1, 2, 2]), ("sum", [1, 2, 2], 0), ("dry", []), ("wet", [0, 1, 2]),
            ("kept", [None, ("trap", [0]), ("weight", [1, 0, 0])]),
            ("most", [(2, [0, 1])], ("room", [list(beads) for beads in CHAIN_ROOM])), None]
        for paper in papers:
            for ask in (("cover", [0, 0, 3]), ("reach", [0, 0, 1]), ("most", 2), ("stick",), ("ever", 1)):
                for answer in ("yes", "no", 2, "endless"):
                    check_own(self, shown, CHAIN, ask, answer, paper)

    def test_arguments_have_their_names(self):
        self.assertIs(shown(net=BARE, ask=("stick",), answer="yes", paper=("run", [])), True)


if __name__ == "__main__":
    unittest.main()
