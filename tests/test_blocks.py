"""[3.4], [3.6], and [0.2] and [0.4] for blocks."""

import unittest

from beadhall.bags import beneath, plus
from beadhall.blocks import block_after, block_gain, block_need, packed, spread
from beadhall.errors import HallError, TooWide
from beadhall.goings import gain_of, need_of, walked

from common import Draw, at_of, box, check_kinds, check_own, net_of

GREAT = 10 ** 300

NET = net_of([3, 0, 7], [
    ([2, 0, 0], [0, 1, 0]),
    ([0, 1, 0], [3, 0, 0]),
    ([1, 1, 1], [1, 1, 2]),
    ([0, 0, 4], [0, 0, 1])])


def row_of(blocks):
    """The row of doors that small blocks stand for."""
    row = []
    for many, doors in blocks:
        for _ in range(many):
            row = row + doors
    return row


def drawn_blocks(draw, net, most):
    return [
        (draw.number(0, most), draw.row(net, draw.number(0, 3)))
        for _ in range(draw.number(0, 4))]


class GainAndNeedTest(unittest.TestCase):
    def test_no_block(self):
        for net in (NET, net_of([1, 2, 3], [])):
            self.assertEqual(block_gain(net, []), [0, 0, 0])
            self.assertEqual(block_need(net, []), [0, 0, 0])
            self.assertEqual(block_after(net, [1, 2, GREAT], []), [1, 2, GREAT])

    def test_blocks_of_no_doors(self):
        for net in (NET, net_of([1, 2, 3], [])):
            blocks = [(GREAT, []), (0, []), (1, [])]
            self.assertEqual(block_gain(net, blocks), [0, 0, 0])
            self.assertEqual(block_need(net, blocks), [0, 0, 0])
            self.assertEqual(block_after(net, [0, 0, 5], blocks), [0, 0, 5])

    def test_many_0(self):
        self.assertEqual(block_gain(NET, [(0, [0, 1])]), [0, 0, 0])
        self.assertEqual(block_need(NET, [(0, [0, 3])]), [0, 0, 0])
        self.assertEqual(block_after(NET, [0, 0, 0], [(0, [0, 3])]), [0, 0, 0])

    def test_many_1(self):
        for row in ([0], [0, 1], [3, 2, 2], [1, 1, 0, 0]):
            self.assertEqual(block_gain(NET, [(1, row)]), gain_of(NET, row))
            self.assertEqual(block_need(NET, [(1, row)]), need_of(NET, row))

    def test_many_of_hundreds_of_figures(self):
        # The row gains one in the first bowl, and needs two there.
        self.assertEqual(block_gain(NET, [(GREAT, [0, 1])]), [GREAT, 0, 0])
        self.assertEqual(block_need(NET, [(GREAT, [0, 1])]), [2, 0, 0])
        # This one loses two in the first bowl and gains one in the second.
        self.assertEqual(block_gain(NET, [(GREAT, [0])]), [-2 * GREAT, GREAT, 0])
        self.assertEqual(block_need(NET, [(GREAT, [0])]), [2 * GREAT, 0, 0])
        # This one loses three of the four that it takes.
        self.assertEqual(block_need(NET, [(GREAT, [3])]), [0, 0, 3 * GREAT + 1])
        self.assertEqual(block_need(NET, [(GREAT, [2])]), [1, 1, 1])

    def test_what_a_block_gains_serves_the_next(self):
        self.assertEqual(block_need(NET, [(GREAT, [0]), (GREAT, [1])]), [2 * GREAT, 0, 0])
        self.assertEqual(block_need(NET, [(GREAT, [2]), (GREAT, [3])]), [1, 1, 2 * GREAT + 1])
        self.assertEqual(block_need(NET, [(GREAT, [3]), (GREAT, [2])]), [1, 1, 3 * GREAT + 1])
        self.assertEqual(block_gain(NET, [(GREAT, [3]), (GREAT, [2])]), [0, 0, -2 * GREAT])

    def test_small_blocks_are_told_like_their_row(self):
        draw = Draw(41)
        for _ in range(400):
            net = draw.net(3, 3, 3)
            blocks = drawn_blocks(draw, net, 4)
            self.assertEqual(block_gain(net, blocks), gain_of(net, row_of(blocks)))
            self.assertEqual(block_need(net, blocks), need_of(net, row_of(blocks)))


class AfterTest(unittest.TestCase):
    def test_behind_small_blocks(self):
        self.assertEqual(block_after(NET, [4, 0, 0], [(2, [0]), (1, [1, 1])]), [6, 0, 0])
        self.assertEqual(block_after(NET, [2, 0, 0], [(7, [0, 1])]), [9, 0, 0])

    def test_many_of_hundreds_of_figures(self):
        blocks = [(GREAT, [2]), (GREAT // 3, [3])]
        self.assertEqual(block_after(NET, [1, 1, 2], blocks), [1, 1, 2 + GREAT - 3 * (GREAT // 3)])
        self.assertEqual(at_of(self, block_after, NET, [1, 1, 1], [(GREAT, [2]), (GREAT // 3 + 1, [3])]), 1)
        self.assertEqual(block_after(NET, [2 * GREAT, 0, 0], [(GREAT, [0])]), [0, GREAT, 0])
        self.assertEqual(at_of(self, block_after, NET, [2 * GREAT - 1, 0, 0], [(GREAT, [0])]), 0)

    def test_at_of_a_block_that_goes_for_a_while(self):
        self.assertEqual(at_of(self, block_after, NET, [9, 0, 0], [(1, [0]), (4, [0]), (1, [0])]), 1)
        self.assertEqual(at_of(self, block_after, NET, [4, 0, 0], [(1, [0, 1]), (5, [0, 0, 1])]), 1)

    def test_at_of_the_first_of_several(self):
        self.assertEqual(at_of(self, block_after, NET, [0, 0, 0], [(1, [3]), (1, [0])]), 0)
        self.assertEqual(at_of(self, block_after, NET, [0, 0, 9], [(0, [0]), (GREAT, []), (1, [0]), (1, [1])]), 2)
        self.assertEqual(at_of(self, block_after, NET, [2, 0, 0], [(1, [0]), (1, [1]), (1, [3])]), 2)

    def test_a_need_that_a_later_block_would_meet_is_not_met(self):
        self.assertEqual(at_of(self, block_after, NET, [0, 0, 5], [(1, [1]), (1, [2])]), 0)

    def test_all_beads_of_a_small_box(self):
        draw = Draw(42)
        for _ in range(60):
            net = draw.net(2, 2, 2)
            blocks = drawn_blocks(draw, net, 3)
            row = row_of(blocks)
            ends = [len(row_of(blocks[:place + 1])) for place in range(len(blocks))]
            for beads in box(2, 7):
                if beneath(need_of(net, row), beads):
                    self.assertEqual(block_after(net, beads, blocks), plus(beads, gain_of(net, row)))
                else:
                    place = at_of(self, walked, net, beads, row)
                    wanted = [number for number, end in enumerate(ends) if place < end][0]
                    self.assertEqual(at_of(self, block_after, net, beads, blocks), wanted)


class SpreadTest(unittest.TestCase):
    def refused(self, blocks, most):
        with self.assertRaises(TooWide) as caught:
            spread(blocks, most)
        self.assertIsInstance(caught.exception, HallError)

    def test_rows(self):
        self.assertEqual(spread([], 0), [])
        self.assertEqual(spread([(3, [1, 2]), (0, [5]), (1, [7])], 100), [1, 2, 1, 2, 1, 2, 7])

    def test_just_the_told_number_and_one_above_it(self):
        for blocks in ([(3, [1, 2]), (1, [7])], [(7, [0])], [(1, [0] * 7)], [(1, [4])] * 7, [(GREAT, []), (7, [3])]):
            self.assertEqual(len(spread(blocks, 7)), 7)
            self.assertEqual(spread(blocks, 8), spread(blocks, 7))
            self.refused(blocks, 6)

    def test_most_0(self):
        self.assertEqual(spread([(0, [1, 2]), (GREAT, [])], 0), [])
        self.refused([(1, [0])], 0)

    def test_most_10000(self):
        self.assertEqual(spread([(5000, [0, 1])], 10000), [0, 1] * 5000)
        self.refused([(5000, [0, 1]), (1, [0])], 10000)

    def test_a_great_many(self):
        self.refused([(GREAT, [0])], 10000)
        self.refused([(1, [0]), (GREAT, [0, 1])], 10000)

    def test_blocks_of_no_doors_however_many(self):
        self.assertEqual(spread([(10 ** 999, [])], 0), [])
        self.assertEqual(spread([(10 ** 999, []), (2, [3]), (10 ** 999, [])], 2), [3, 3])

    def test_small_blocks(self):
        draw = Draw(43)
        for _ in range(100):
            blocks = drawn_blocks(draw, NET, 4)
            self.assertEqual(spread(blocks, 10000), row_of(blocks))


class PackedTest(unittest.TestCase):
    def test_rows(self):
        self.assertEqual(packed([]), [])
        self.assertEqual(packed([4]), [(1, [4])])
        self.assertEqual(packed([0, 0, 0]), [(3, [0])])
        self.assertEqual(packed([2, 2, 0, 1, 1, 2]), [(2, [2]), (1, [0]), (2, [1]), (1, [2])])

    def test_drawn_rows_are_spread_back(self):
        draw = Draw(44)
        for length in list(range(12)) * 4:
            row = [draw.number(0, 1) for _ in range(length)]
            blocks = packed(row)
            self.assertEqual(spread(blocks, length), row)
            for many, doors in blocks:
                self.assertGreaterEqual(many, 1)
                self.assertEqual(len(doors), 1)
            for block, following in zip(blocks, blocks[1:]):
                self.assertNotEqual(block[1], following[1])

    def test_a_long_row(self):
        self.assertEqual(packed([1] * 5000 + [0] * 5000), [(5000, [1]), (5000, [0])])


class OwnTest(unittest.TestCase):
    def test_what_is_told_is_the_askers_own(self):
        blocks = [(2, [0, 1]), (0, [1]), (1, [])]
        check_own(self, block_gain, NET, blocks)
        check_own(self, block_need, NET, blocks)
        check_own(self, block_need, NET, [(1, [0])])
        check_own(self, block_after, NET, [5, 0, 0], blocks)
        check_own(self, block_after, NET, [5, 0, 0], [])
        check_own(self, spread, blocks, 9)
        check_own(self, spread, [(1, [2, 3])], 9)
        check_own(self, packed, [0, 0, 1, 0])

    def test_all_is_as_it_was_behind_a_refusal(self):
        beads = [1, 0, 0]
        blocks = [(1, [2]), (3, [0])]
        at_of(self, block_after, NET, beads, blocks)
        with self.assertRaises(TooWide):
            spread(blocks, 3)
        self.assertEqual((beads, blocks), ([1, 0, 0], [(1, [2]), (3, [0])]))

    def test_kinds(self):
        blocks = [(1, [0]), (3, [1])]
        for told in (
                block_gain(NET, blocks), block_need(NET, blocks), block_after(NET, [9, 9, 9], blocks),
                spread(blocks, 9), packed([0, 1, 1])):
            self.assertIs(type(told), list)
            check_kinds(self, told)
        for block in packed([0, 1, 1]):
            self.assertIs(type(block), tuple)

    def test_arguments_have_their_names(self):
        blocks = [(2, [0])]
        self.assertEqual(block_gain(net=NET, blocks=blocks), [-4, 2, 0])
        self.assertEqual(block_need(net=NET, blocks=blocks), [4, 0, 0])
        self.assertEqual(block_after(net=NET, beads=[4, 0, 0], blocks=blocks), [0, 2, 0])
        self.assertEqual(spread(blocks=blocks, most=2), [0, 0])
        self.assertEqual(packed(doors=[0, 0]), blocks)


if __name__ == "__main__":
    unittest.main()
