"""[3.1], [3.2], [3.3], [3.5], and [0.2] and [0.4] for goings."""

import unittest

from beadhall.bags import beneath, less, plus, times
from beadhall.goings import after, gain_of, may, need_of, tally_gain, tally_of, walked
from beadhall.nets import gain

from common import Draw, at_of, box, check_kinds, check_own, net_of, rows_of_doors

GREAT = 10 ** 999

# The doors: one that takes from one bowl, one from all, one that takes nothing, one that gives nothing,
# one that gives just what it takes, one that does neither.
NET = net_of([3, 0, 7], [
    ([2, 0, 0], [0, 1, 0]),
    ([1, 2, 3], [0, 0, 4]),
    ([0, 0, 0], [1, 0, 5]),
    ([0, 0, 5], [0, 0, 0]),
    ([1, 1, 0], [1, 1, 0]),
    ([0, 0, 0], [0, 0, 0])])
FROM_ONE, FROM_ALL, NOTHING, AWAY, SAME, IDLE = range(6)


class DoorTest(unittest.TestCase):
    def test_just_enough_and_one_too_few(self):
        for door, takes in enumerate(NET.takes):
            self.assertIs(may(NET, takes, door), True)
            for bowl in range(3):
                if takes[bowl] > 0:
                    fewer = list(takes)
                    fewer[bowl] -= 1
                    self.assertIs(may(NET, fewer, door), False)
                    self.assertEqual(at_of(self, after, NET, fewer, door), 0)

    def test_more_elsewhere_does_not_help(self):
        self.assertIs(may(NET, [1, GREAT, GREAT], FROM_ONE), False)
        self.assertIs(may(NET, [GREAT, 1, GREAT], FROM_ALL), False)
        self.assertIs(may(NET, [GREAT, GREAT, 2], FROM_ALL), False)

    def test_beads_behind(self):
        self.assertEqual(after(NET, [2, 0, 0], FROM_ONE), [0, 1, 0])
        self.assertEqual(after(NET, [9, 8, 7], FROM_ALL), [8, 6, 8])
        self.assertEqual(after(NET, [0, 0, 0], NOTHING), [1, 0, 5])
        self.assertEqual(after(NET, [4, 3, 5], AWAY), [4, 3, 0])
        self.assertEqual(after(NET, [1, 1, 0], SAME), [1, 1, 0])
        self.assertEqual(after(NET, [0, 0, 0], IDLE), [0, 0, 0])

    def test_what_is_taken_must_be_there_though_it_is_given_back(self):
        self.assertIs(may(NET, [0, 1, 0], SAME), False)
        self.assertEqual(at_of(self, after, NET, [1, 0, 9], SAME), 0)

    def test_beads_of_many_figures(self):
        self.assertIs(may(NET, [GREAT, GREAT, GREAT], FROM_ALL), True)
        self.assertEqual(after(NET, [GREAT, GREAT, GREAT], FROM_ALL), [GREAT - 1, GREAT - 2, GREAT + 1])

    def test_doors_of_the_greatest_counts(self):
        most = 10 ** 9
        net = net_of([0], [([most], [most - 1])])
        self.assertIs(may(net, [most - 1], 0), False)
        self.assertIs(may(net, [most], 0), True)
        self.assertEqual(after(net, [most], 0), [most - 1])

    def test_the_first_beads_are_not_what_is_asked(self):
        self.assertIs(may(NET, [0, 0, 0], FROM_ONE), False)
        self.assertEqual(after(NET, [10, 0, 0], FROM_ONE), [8, 1, 0])

    def test_small_nets(self):
        draw = Draw(31)
        for _ in range(20):
            net = draw.net(2, 3, 3)
            for beads in box(2, 4):
                for door in range(3):
                    goes = all(beads[bowl] >= net.takes[door][bowl] for bowl in range(2))
                    self.assertIs(may(net, beads, door), goes)
                    if goes:
                        self.assertEqual(after(net, beads, door), [
                            beads[bowl] - net.takes[door][bowl] + net.gives[door][bowl] for bowl in range(2)])
                    else:
                        self.assertEqual(at_of(self, after, net, beads, door), 0)


class RowTest(unittest.TestCase):
    def test_no_door(self):
        self.assertEqual(walked(NET, [1, 2, 3], []), [[1, 2, 3]])
        self.assertEqual(walked(net_of([5], []), [0], []), [[0]])

    def test_beads_met(self):
        self.assertEqual(walked(NET, [2, 0, 0], [FROM_ONE]), [[2, 0, 0], [0, 1, 0]])
        self.assertEqual(
            walked(NET, [5, 0, 3], [FROM_ONE, FROM_ONE, FROM_ALL, NOTHING, AWAY, IDLE]),
            [[5, 0, 3], [3, 1, 3], [1, 2, 3], [0, 0, 4], [1, 0, 9], [1, 0, 4], [1, 0, 4]])

    def test_a_long_row(self):
        met = walked(NET, [4000, 0, 0], [FROM_ONE] * 2000)
        self.assertEqual(len(met), 2001)
        self.assertEqual(met[1000], [2000, 1000, 0])
        self.assertEqual(met[-1], [0, 2000, 0])

    def test_at_the_first_a_middle_and_the_last_place(self):
        self.assertEqual(at_of(self, walked, NET, [1, 0, 0], [FROM_ONE, NOTHING, NOTHING]), 0)
        self.assertEqual(at_of(self, walked, NET, [1, 0, 0], [NOTHING, FROM_ONE, FROM_ONE, NOTHING]), 2)
        self.assertEqual(at_of(self, walked, NET, [1, 0, 0], [NOTHING, FROM_ONE, FROM_ALL]), 2)
        self.assertEqual(at_of(self, walked, NET, [0, 0, 0], [FROM_ALL]), 0)

    def test_at_is_that_of_the_first_of_several(self):
        self.assertEqual(at_of(self, walked, NET, [0, 0, 0], [IDLE, FROM_ONE, FROM_ALL, AWAY]), 1)

    def test_all_rows_of_small_nets(self):
        draw = Draw(32)
        for _ in range(6):
            net = draw.net(2, 3, 2)
            for row in rows_of_doors(net, 3):
                for beads in box(2, 3):
                    met = [beads]
                    while len(met) <= len(row) and may(net, met[-1], row[len(met) - 1]):
                        met.append(after(net, met[-1], row[len(met) - 1]))
                    if len(met) == len(row) + 1:
                        self.assertEqual(walked(net, beads, row), met)
                    else:
                        self.assertEqual(at_of(self, walked, net, beads, row), len(met) - 1)


class GainAndNeedTest(unittest.TestCase):
    def test_no_door(self):
        for net in (NET, net_of([5, 6, 7], [])):
            self.assertEqual(gain_of(net, []), [0, 0, 0])
            self.assertEqual(need_of(net, []), [0, 0, 0])

    def test_one_door(self):
        for door in range(6):
            self.assertEqual(gain_of(NET, [door]), gain(NET, door))
            self.assertEqual(need_of(NET, [door]), NET.takes[door])

    def test_rows(self):
        self.assertEqual(gain_of(NET, [FROM_ONE, FROM_ONE, FROM_ALL]), [-5, 0, 1])
        self.assertEqual(need_of(NET, [FROM_ONE, FROM_ONE, FROM_ALL]), [5, 0, 3])
        self.assertEqual(need_of(NET, [FROM_ALL, FROM_ONE, FROM_ONE]), [5, 2, 3])
        self.assertEqual(need_of(NET, [NOTHING, FROM_ONE, AWAY, AWAY]), [1, 0, 5])
        self.assertEqual(gain_of(NET, [NOTHING, FROM_ONE, AWAY, AWAY]), [-1, 1, -5])

    def test_beads_given_too_late_or_in_plenty(self):
        self.assertEqual(need_of(NET, [AWAY, NOTHING]), [0, 0, 5])
        self.assertEqual(need_of(NET, [NOTHING, AWAY]), [0, 0, 0])
        self.assertEqual(need_of(NET, [NOTHING, NOTHING, AWAY, AWAY, AWAY]), [0, 0, 5])

    def test_a_long_row(self):
        self.assertEqual(need_of(NET, [FROM_ONE, NOTHING] * 3000), [3001, 0, 0])
        self.assertEqual(gain_of(NET, [FROM_ONE, NOTHING] * 3000), [-3000, 3000, 15000])

    def test_a_row_goes_just_where_its_need_lies_beneath(self):
        draw = Draw(33)
        for _ in range(8):
            net = draw.net(2, 3, 2)
            for row in rows_of_doors(net, 3):
                need = need_of(net, row)
                self.assertGreaterEqual(min(need), 0)
                for beads in box(2, 6):
                    if beneath(need, beads):
                        self.assertEqual(walked(net, beads, row)[-1], plus(beads, gain_of(net, row)))
                    else:
                        at_of(self, walked, net, beads, row)

    def test_drawn_rows_from_their_need_and_one_bead_less(self):
        draw = Draw(34)
        for _ in range(60):
            net = draw.net(4, 5, 1000000000)
            row = draw.row(net, draw.number(1, 30))
            need = need_of(net, row)
            self.assertEqual(walked(net, need, row)[-1], plus(need, gain_of(net, row)))
            for bowl in range(4):
                if need[bowl] > 0:
                    fewer = list(need)
                    fewer[bowl] -= 1
                    at_of(self, walked, net, fewer, row)


class TallyTest(unittest.TestCase):
    def test_tally_of_rows(self):
        self.assertEqual(tally_of(NET, []), [0, 0, 0, 0, 0, 0])
        self.assertEqual(tally_of(NET, [IDLE, FROM_ONE, AWAY, FROM_ONE, FROM_ONE]), [3, 0, 0, 1, 0, 1])
        self.assertEqual(tally_of(net_of([5], []), []), [])

    def test_gain_of_tallies_of_either_sign(self):
        self.assertEqual(tally_gain(NET, [0] * 6), [0, 0, 0])
        self.assertEqual(tally_gain(NET, [3, 0, -2, 0, 9, -9]), [-8, 3, -10])
        self.assertEqual(tally_gain(NET, [-1, 0, 0, 0, 0, 0]), [2, -1, 0])
        self.assertEqual(tally_gain(NET, [0, GREAT, 0, -GREAT, 0, 0]), [-GREAT, -2 * GREAT, 6 * GREAT])

    def test_gain_without_a_door(self):
        self.assertEqual(tally_gain(net_of([5, 6], []), []), [0, 0])

    def test_tally_and_gain_of_a_row(self):
        draw = Draw(35)
        for _ in range(40):
            net = draw.net(3, 4, 9)
            row = draw.row(net, draw.number(0, 12))
            tally = tally_of(net, row)
            self.assertEqual(tally, [sum(1 for other in row if other == door) for door in range(4)])
            self.assertEqual(tally_gain(net, tally), gain_of(net, row))

    def test_gain_of_a_tally_is_a_sum(self):
        draw = Draw(36)
        for _ in range(40):
            net = draw.net(3, 4, 9)
            tally = draw.bag(4, -9, 9)
            wanted = [0, 0, 0]
            for door in range(4):
                wanted = plus(wanted, times(tally[door], less(net.gives[door], net.takes[door])))
            self.assertEqual(tally_gain(net, tally), wanted)


class OwnTest(unittest.TestCase):
    def test_what_is_told_is_the_askers_own(self):
        row = [NOTHING, IDLE, FROM_ONE, IDLE, AWAY]
        check_own(self, may, NET, [2, 0, 0], FROM_ONE)
        check_own(self, after, NET, [2, 0, 0], FROM_ONE)
        check_own(self, after, NET, [2, 0, 0], IDLE)
        check_own(self, walked, NET, [5, 5, 5], row)
        check_own(self, walked, NET, [5, 5, 5], [])
        check_own(self, gain_of, NET, row)
        check_own(self, need_of, NET, row)
        check_own(self, need_of, NET, [AWAY])
        check_own(self, need_of, NET, [])
        check_own(self, tally_of, NET, row)
        check_own(self, tally_gain, NET, [1, -2, 3, 0, 0, 0])

    def test_beads_are_as_they_were_behind_a_refusal(self):
        beads = [1, 0, 0]
        row = [NOTHING, FROM_ONE, FROM_ONE]
        at_of(self, walked, NET, beads, row)
        self.assertEqual((beads, row), ([1, 0, 0], [NOTHING, FROM_ONE, FROM_ONE]))

    def test_kinds(self):
        row = [NOTHING, FROM_ONE]
        for told in (
                after(NET, [2, 0, 0], FROM_ONE), walked(NET, [5, 5, 5], row), gain_of(NET, row), need_of(NET, row),
                tally_of(NET, row), tally_gain(NET, [0, 1, 0, 0, 0, 0])):
            self.assertIs(type(told), list)
            check_kinds(self, told)

    def test_arguments_have_their_names(self):
        beads = [5, 5, 5]
        self.assertIs(may(net=NET, beads=beads, door=0), True)
        self.assertEqual(after(net=NET, beads=beads, door=0), [3, 6, 5])
        self.assertEqual(walked(net=NET, beads=beads, doors=[0]), [[5, 5, 5], [3, 6, 5]])
        self.assertEqual(gain_of(net=NET, doors=[0]), [-2, 1, 0])
        self.assertEqual(need_of(net=NET, doors=[0]), [2, 0, 0])
        self.assertEqual(tally_of(net=NET, doors=[0]), [1, 0, 0, 0, 0, 0])
        self.assertEqual(tally_gain(net=NET, tally=[1, 0, 0, 0, 0, 0]), [-2, 1, 0])


if __name__ == "__main__":
    unittest.main()
