"""[8.3] to [8.6], and [0.2] and [0.4] for prices and growing tallies."""

import unittest

from beadhall.bags import beneath
from beadhall.blocks import block_after
from beadhall.dues import ceiling_of, is_growing, is_price, price_of_all, price_or_tally, seed_of
from beadhall.goings import need_of, walked

from common import Draw, box, check_kinds, check_own, met_by_runs, net_of

GREAT = 10 ** 999
MOST = 10 ** 9

BARE = net_of([4, 0], [])
# Three coins for a hen, and two coins back for one.
TRADE = net_of([0, 10], [([0, 3], [1, 0]), ([1, 0], [0, 2])])
# Two of the first bowl for three of the second, and two of the second for two of the first: each door once
# leaves one more in the second bowl. The third bowl is emptied.
MILL = net_of([2, 0, 5], [([2, 0, 0], [0, 3, 0]), ([0, 2, 0], [2, 0, 0]), ([0, 0, 1], [0, 0, 0])])


def weigh(weights, numbers):
    return sum(weight * number for weight, number in zip(weights, numbers, strict=True))


def gains_of(net):
    return [[gave - took for took, gave in zip(takes, gives)] for takes, gives in zip(net.takes, net.gives)]


def gain_of_tally(net, tally):
    return [
        sum(many * row[bowl] for many, row in zip(tally, gains_of(net), strict=True)) for bowl in range(len(net.bowls))]


def price_by_words(net, weights, bowl):
    return all(weight >= 0 for weight in weights) and weights[bowl] > 0 and all(
        weigh(weights, row) <= 0 for row in gains_of(net))


def growing_by_words(net, tally, bowl):
    gained = gain_of_tally(net, tally)
    return all(many >= 0 for many in tally) and all(number >= 0 for number in gained) and gained[bowl] > 0


def drawn_nets(seed, many):
    draw = Draw(seed)
    for _ in range(many):
        yield draw.net(draw.number(1, 6), draw.number(0, 8), draw.number(1, 4))
        yield draw.moving_net(draw.number(1, 6), draw.number(1, 8), draw.number(1, 3))
        yield draw.net(draw.number(1, 3), draw.number(0, 2), draw.number(1, 3))


def small_nets(seed, many):
    draw = Draw(seed)
    for _ in range(many):
        yield draw.net(draw.number(1, 3), draw.number(1, 3), draw.number(1, 2))
        yield draw.moving_net(draw.number(1, 3), draw.number(1, 3), draw.number(1, 2))


class PriceTest(unittest.TestCase):
    def test_prices(self):
        self.assertIs(is_price(TRADE, [2, 1], 0), True)
        self.assertIs(is_price(TRADE, [2, 1], 1), True)
        self.assertIs(is_price(TRADE, [3, 1], 1), True)

    def test_one_above_and_one_below(self):
        for weights, wanted in (
                ([19, 10], False), ([20, 10], True), ([21, 10], True), ([29, 10], True), ([30, 10], True),
                ([31, 10], False)):
            self.assertIs(is_price(TRADE, weights, 0), wanted)
            self.assertIs(is_price(TRADE, weights, 1), wanted)

    def test_the_bowls_own_number(self):
        net = net_of([1, 1], [([1, 0], [0, 0])])
        self.assertIs(is_price(net, [1, 0], 0), True)
        self.assertIs(is_price(net, [1, 0], 1), False)
        self.assertIs(is_price(net, [0, 1], 0), False)
        self.assertIs(is_price(net, [0, 1], 1), True)
        self.assertIs(is_price(net, [0, 0], 0), False)

    def test_a_number_below_nought(self):
        net = net_of([1, 1], [([1, 0], [0, 0])])
        self.assertIs(is_price(net, [1, -1], 0), False)
        self.assertIs(is_price(net, [-1, 1], 1), False)
        self.assertIs(is_price(net, [1, -1], 1), False)
        self.assertIs(is_price(BARE, [-1, 1], 1), False)
        self.assertIs(is_price(BARE, [0, 1], 1), True)

    def test_drawn_weights(self):
        draw = Draw(221)
        found = []
        for net in small_nets(222, 120):
            for _ in range(12):
                weights = draw.bag(len(net.bowls), -1, 3)
                bowl = draw.number(0, len(net.bowls) - 1)
                wanted = price_by_words(net, weights, bowl)
                found.append(wanted)
                self.assertIs(is_price(net, weights, bowl), wanted)
        self.assertGreater(min(found.count(True), found.count(False)), 100)

    def test_ceilings_are_rounded_down(self):
        for first, wanted in (([0, 9], 3), ([0, 10], 3), ([0, 11], 3), ([0, 12], 4), ([1, 11], 4), ([0, 0], 0)):
            self.assertEqual(ceiling_of(net_of(first, [([0, 3], [1, 0])]), [3, 1], 0), wanted)
        self.assertEqual(ceiling_of(net_of([5, 11], [([0, 3], [1, 0])]), [3, 1], 1), 26)
        self.assertEqual(ceiling_of(BARE, [1, 1], 0), 4)
        self.assertEqual(ceiling_of(BARE, [2, 9], 1), 0)
        self.assertEqual(ceiling_of(BARE, [GREAT, GREAT // 3], 0), 4)

    def test_no_run_comes_above_the_ceiling_and_what_is_weighed_never_rises(self):
        for net in small_nets(223, 60):
            for weights in box(len(net.bowls), 2):
                for bowl in range(len(net.bowls)):
                    if is_price(net, weights, bowl):
                        for beads in met_by_runs(net, 20):
                            self.assertLessEqual(beads[bowl], ceiling_of(net, weights, bowl))
                            self.assertLessEqual(weigh(weights, beads), weigh(weights, net.first))


class GrowingTest(unittest.TestCase):
    def test_growing_tallies(self):
        self.assertIs(is_growing(MILL, [1, 1, 0], 1), True)
        self.assertIs(is_growing(MILL, [1, 1, 0], 0), False)
        self.assertIs(is_growing(MILL, [2, 3, 0], 0), True)
        self.assertIs(is_growing(MILL, [2, 3, 0], 1), False)
        self.assertIs(is_growing(MILL, [3, 4, 0], 0), True)
        self.assertIs(is_growing(MILL, [3, 4, 0], 1), True)
        self.assertIs(is_growing(MILL, [3, 4, 0], 2), False)

    def test_a_number_below_nought_in_the_tally_or_in_the_gain(self):
        self.assertIs(is_growing(MILL, [1, 1, 1], 1), False)
        self.assertIs(is_growing(MILL, [0, 0, -1], 2), False)
        self.assertIs(is_growing(MILL, [1, 0, 0], 1), False)
        self.assertIs(is_growing(MILL, [0, 0, 0], 1), False)

    def test_no_door(self):
        self.assertIs(is_growing(BARE, [], 0), False)
        self.assertIs(is_price(BARE, [0, 1], 0), False)
        self.assertIs(is_price(BARE, [1, 0], 0), True)

    def test_drawn_tallies(self):
        draw = Draw(224)
        found = []
        for net in small_nets(225, 150):
            for _ in range(12):
                tally = draw.bag(len(net.doors), -1, 3)
                bowl = draw.number(0, len(net.bowls) - 1)
                wanted = growing_by_words(net, tally, bowl)
                found.append(wanted)
                self.assertIs(is_growing(net, tally, bowl), wanted)
        self.assertGreater(min(found.count(True), found.count(False)), 100)


class PriceOrTallyTest(unittest.TestCase):
    def check(self, net, bowl):
        told = price_or_tally(net, bowl)
        self.assertIs(type(told), tuple)
        check_kinds(self, told)
        if told[0] == "grow":
            kind, tally = told
            self.assertIs(type(tally), list)
            self.assertTrue(growing_by_words(net, tally, bowl))
            self.assertIs(is_growing(net, tally, bowl), True)
            return told
        kind, weights, share, part = told
        self.assertEqual(kind, "price")
        self.assertEqual((type(weights), type(share), type(part)), (list, list, int))
        self.assertTrue(price_by_words(net, weights, bowl))
        self.assertIs(is_price(net, weights, bowl), True)
        self.assertEqual(len(share), len(net.doors))
        self.assertTrue(all(number >= 0 for number in share))
        self.assertGreater(part, 0)
        left = [part * beads + gained for beads, gained in zip(net.first, gain_of_tally(net, share))]
        self.assertGreaterEqual(min(left), 0)
        self.assertEqual(left[bowl] * weights[bowl], part * weigh(weights, net.first))
        return told

    def test_a_price(self):
        told = self.check(TRADE, 0)
        self.assertEqual((told[0], ceiling_of(TRADE, told[1], 0)), ("price", 3))
        told = self.check(TRADE, 1)
        self.assertEqual((told[0], ceiling_of(TRADE, told[1], 1)), ("price", 10))

    def test_a_growing_tally(self):
        self.assertEqual(self.check(MILL, 0)[0], "grow")
        self.assertEqual(self.check(MILL, 1)[0], "grow")
        self.assertEqual(self.check(MILL, 2)[0], "price")

    def test_no_door(self):
        for net in (BARE, net_of([0], []), net_of([1, 2, 3, 4, 5, MOST], [])):
            for bowl in range(len(net.bowls)):
                told = self.check(net, bowl)
                self.assertEqual((told[0], told[2]), ("price", []))
                self.assertEqual(ceiling_of(net, told[1], bowl), net.first[bowl])

    def test_no_bead_at_first(self):
        # The bowl can be filled from no bead, and not be filled from none.
        net = net_of([0, 0], [([0, 1], [5, 0])])
        told = self.check(net, 0)
        self.assertEqual(ceiling_of(net, told[1], 0), 0)
        told = self.check(net, 1)
        self.assertEqual(ceiling_of(net, told[1], 1), 0)

    def test_the_least_of_several_prices(self):
        # Each of the other two bowls is worth something for it, at the better of two doors.
        net = net_of([1, 7, 9], [([0, 2, 0], [3, 0, 0]), ([0, 2, 0], [1, 0, 0]), ([0, 0, 4], [5, 0, 0])])
        told = self.check(net, 0)
        weights = told[1]
        self.assertEqual([4 * weights[1], 4 * weights[2]], [6 * weights[0], 5 * weights[0]])
        self.assertEqual(ceiling_of(net, weights, 0), 22)

    def test_drawn_nets(self):
        kinds = []
        for net in drawn_nets(226, 60):
            for bowl in range(len(net.bowls)):
                kinds.append(self.check(net, bowl)[0])
        self.assertGreater(min(kinds.count("grow"), kinds.count("price")), 100)

    def test_never_both(self):
        for net in small_nets(227, 60):
            for bowl in range(len(net.bowls)):
                told = self.check(net, bowl)
                if told[0] == "grow":
                    self.assertFalse(any(is_price(net, weights, bowl) for weights in box(len(net.bowls), 3)))
                else:
                    self.assertFalse(any(is_growing(net, tally, bowl) for tally in box(len(net.doors), 3)))

    def test_no_price_is_less(self):
        for net in small_nets(228, 60):
            for bowl in range(len(net.bowls)):
                told = price_or_tally(net, bowl)
                for weights in box(len(net.bowls), 3):
                    if told[0] == "price" and is_price(net, weights, bowl):
                        self.assertLessEqual(
                            weigh(told[1], net.first) * weights[bowl], weigh(weights, net.first) * told[1][bowl])

    def test_great_numbers(self):
        doors = [
            ([MOST - place, place, 0, 0, 0, 1], [0, 0, MOST - 7 * place, 1, place, 0]) for place in range(4)]
        doors += [([0, 0, MOST - place, 0, 9, 0], [place, MOST, 0, 0, 0, 9]) for place in range(4)]
        for first in ([MOST] * 6, [0, MOST, 1, 0, 3, 7]):
            net = net_of(first, doors)
            for bowl in range(6):
                self.check(net, bowl)


class SeedTest(unittest.TestCase):
    def check(self, net, tally):
        seed = seed_of(net, tally)
        row = [door for door, many in enumerate(tally) for _ in range(many)]
        self.assertEqual(seed, need_of(net, row))
        walked(net, seed, row)
        for bowl, beads in enumerate(seed):
            if beads > 0:
                fewer = seed[:bowl] + [beads - 1] + seed[bowl + 1:]
                with self.assertRaises(ValueError):
                    walked(net, fewer, row)
        return seed

    def test_seeds(self):
        self.assertEqual(self.check(MILL, [1, 1, 0]), [2, 0, 0])
        self.assertEqual(self.check(MILL, [0, 1, 0]), [0, 2, 0])
        self.assertEqual(self.check(MILL, [3, 4, 2]), [6, 0, 2])
        self.assertEqual(self.check(MILL, [1, 2, 0]), [2, 1, 0])

    def test_the_tally_of_noughts(self):
        self.assertEqual(seed_of(MILL, [0, 0, 0]), [0, 0, 0])
        self.assertEqual(seed_of(BARE, []), [0, 0])

    def test_doors_in_their_order(self):
        net = net_of([0, 0], [([1, 0], [0, 1]), ([0, 1], [1, 0])])
        self.assertEqual(seed_of(net, [2, 2]), [2, 0])
        net = net_of([0, 0], [([0, 1], [1, 0]), ([1, 0], [0, 1])])
        self.assertEqual(seed_of(net, [2, 2]), [0, 2])

    def test_drawn_tallies(self):
        draw = Draw(229)
        for net in small_nets(230, 60):
            self.check(net, draw.bag(len(net.doors), 0, 3))

    def test_great_numbers(self):
        self.assertEqual(seed_of(MILL, [GREAT, 0, 0]), [2 * GREAT, 0, 0])
        self.assertEqual(seed_of(MILL, [2, GREAT, 1]), [4, 2 * GREAT - 6, 1])

    def test_from_the_seed_of_a_growing_tally_it_goes_again_and_again(self):
        grown = 0
        for net in small_nets(231, 60):
            for bowl in range(len(net.bowls)):
                told = price_or_tally(net, bowl)
                if told[0] == "grow":
                    grown += 1
                    beads = seed_of(net, told[1])
                    for _ in range(4):
                        behind = block_after(net, beads, [(many, [door]) for door, many in enumerate(told[1])])
                        self.assertTrue(beneath(beads, behind))
                        self.assertGreater(behind[bowl], beads[bowl])
                        beads = behind
        self.assertGreater(grown, 50)


class PriceOfAllTest(unittest.TestCase):
    def check(self, net):
        told = price_of_all(net)
        self.assertIs(type(told), tuple)
        check_kinds(self, told)
        kinds = [price_or_tally(net, bowl)[0] for bowl in range(len(net.bowls))]
        if "grow" in kinds:
            kind, bowl, tally = told
            self.assertEqual((kind, bowl), ("grow", kinds.index("grow")))
            self.assertIs(type(tally), list)
            self.assertTrue(growing_by_words(net, tally, bowl))
        else:
            kind, weights = told
            self.assertEqual((kind, type(weights), len(weights)), ("price", list, len(net.bowls)))
            self.assertGreater(min(weights), 0)
            self.assertTrue(all(weigh(weights, row) <= 0 for row in gains_of(net)))
        return told

    def test_a_price_of_all(self):
        self.assertEqual(self.check(TRADE)[0], "price")
        self.assertEqual(self.check(BARE)[0], "price")

    def test_the_first_bowl_that_grows(self):
        self.assertEqual(self.check(MILL)[:2], ("grow", 0))
        net = net_of([3, 0, 0], [([1, 0, 0], [0, 0, 0]), ([0, 0, 0], [0, 0, 1]), ([0, 0, 3], [0, 1, 0])])
        self.assertEqual(self.check(net)[:2], ("grow", 1))
        net = net_of([3, 0, 0], [([1, 0, 0], [0, 1, 0]), ([0, 0, 0], [0, 0, 1])])
        self.assertEqual(self.check(net)[:2], ("grow", 2))

    def test_drawn_nets(self):
        kinds = [self.check(net)[0] for net in list(drawn_nets(232, 60)) + list(small_nets(233, 60))]
        self.assertGreater(min(kinds.count("grow"), kinds.count("price")), 40)


class OwnTest(unittest.TestCase):
    def test_what_is_told_is_the_askers_own(self):
        for net in (BARE, TRADE, MILL):
            check_own(self, price_of_all, net)
            check_own(self, seed_of, net, [2] * len(net.doors))
            check_own(self, is_growing, net, [2] * len(net.doors), 0)
            check_own(self, is_price, net, [2] * len(net.bowls), 0)
            check_own(self, ceiling_of, net, [2] * len(net.bowls), 0)
            for bowl in range(len(net.bowls)):
                check_own(self, price_or_tally, net, bowl)

    def test_arguments_have_their_names(self):
        self.assertIs(is_price(net=TRADE, weights=[2, 1], bowl=0), True)
        self.assertIs(is_growing(net=MILL, tally=[1, 1, 0], bowl=1), True)
        self.assertEqual(ceiling_of(net=TRADE, weights=[3, 1], bowl=0), 3)
        self.assertEqual(price_or_tally(net=MILL, bowl=0)[0], "grow")
        self.assertEqual(seed_of(net=MILL, tally=[1, 1, 0]), [2, 0, 0])
        self.assertEqual(price_of_all(net=TRADE)[0], "price")


if __name__ == "__main__":
    unittest.main()
