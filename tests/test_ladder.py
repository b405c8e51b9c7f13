"""[4.4], [4.5], and [0.2] and [0.4] for ladders and scales."""

import itertools
import unittest

from beadhall.bags import less, plus, times, weighed
from beadhall.ladder import ladder, scales

from common import Draw, added_up, check_kinds, check_own, check_tables

GREAT = 10 ** 400

TABLES = [
    ([], 0), ([], 3), ([[]], 0), ([[], []], 0), ([[0]], 1), ([[0, 0], [0, 0]], 2),
    ([[5]], 1), ([[-5]], 1), ([[6], [4]], 1), ([[6], [-10], [15]], 1), ([[0, -3, 6]], 3),
    ([[1, 2, 3], [2, 4, 6], [-3, -6, -9]], 3),
    ([[0, 0, 2], [0, 3, 0], [5, 0, 0]], 3),
    ([[2, 5], [0, 3]], 2), ([[2, -5], [0, 3]], 2), ([[2, 5], [4, 11], [6, 14]], 2),
    ([[4, 1, 7], [6, 5, 5], [10, 3, 1], [2, 2, 2]], 3),
    ([[0, 6, 1, 9], [0, 4, 3, 9], [0, 0, 5, 1]], 4),
    ([[GREAT, 1], [1, GREAT]], 2), ([[GREAT, -GREAT, 0], [7 * GREAT, 3, 1]], 3), ([[GREAT, 7], [GREAT + 1, -7]], 2)]


def leading(row):
    return [place for place, number in enumerate(row) if number != 0][0]


def rungs_of(rows, width):
    return [(pivot, rung) for pivot, rung, making in ladder(rows, width)]


def drawn_tables():
    draw = Draw(61)
    for most in (1, 4, 30):
        for _ in range(60):
            width = draw.number(1, 4)
            rows = [draw.bag(width, -most, most) for _ in range(draw.number(0, 4))]
            yield rows, width
            if rows:
                again = added_up(rows, draw.bag(len(rows), -3, 3), width)
                yield [again] + rows, width


class LadderTest(unittest.TestCase):
    def check(self, rows, width):
        told = ladder(rows, width)
        pivots = [pivot for pivot, rung, making in told]
        self.assertEqual(pivots, sorted(set(pivots)))
        for pivot, rung, making in told:
            self.assertEqual(leading(rung), pivot)
            self.assertGreater(rung[pivot], 0)
            self.assertEqual((len(rung), len(making)), (width, len(rows)))
            self.assertEqual(added_up(rows, making, width), rung)
            for later, other, _ in told:
                if later > pivot:
                    self.assertGreaterEqual(rung[later], 0)
                    self.assertLess(rung[later], other[later])
        for row in rows:
            for pivot, rung, making in told:
                self.assertEqual(row[pivot] % rung[pivot], 0)
                row = less(row, times(row[pivot] // rung[pivot], rung))
            self.assertEqual(row, [0] * width)

    def test_told_and_drawn_tables(self):
        check_tables(self, TABLES + list(drawn_tables()))

    def test_small_tables_of_every_kind(self):
        for numbers in itertools.product((-3, 0, 2, 4), repeat=4):
            self.check([list(numbers[:2]), list(numbers[2:])], 2)

    def test_tables_as_great_as_those_of_nets(self):
        draw = Draw(62)
        for many, width in ((8, 6), (6, 6), (4, 6)):
            self.check([draw.bag(width, -1000000000, 1000000000) for _ in range(many)], width)

    def test_rungs(self):
        self.assertEqual(rungs_of([[2, 5], [0, 3]], 2), [(0, [2, 2]), (1, [0, 3])])
        self.assertEqual(rungs_of([[2, -5], [0, 3]], 2), [(0, [2, 1]), (1, [0, 3])])
        self.assertEqual(rungs_of([[6], [-10], [15]], 1), [(0, [1])])
        self.assertEqual(rungs_of([[-6]], 1), [(0, [6])])
        self.assertEqual(rungs_of([[2, 0, 1], [2, 0, 7]], 3), [(0, [2, 0, 1]), (2, [0, 0, 6])])
        self.assertEqual(rungs_of([[4, 6, 1], [6, 10, 0], [0, 0, 9]], 3), [
            (0, [2, 0, 5]), (1, [0, 2, 6]), (2, [0, 0, 9])])

    def test_no_rung(self):
        for rows, width in (([], 0), ([], 4), ([[], []], 0), ([[0, 0]], 2)):
            self.assertEqual(ladder(rows, width), [])

    def test_the_same_whatever_the_order_of_the_rows(self):
        for rows, width in TABLES + list(drawn_tables())[:60]:
            wanted = rungs_of(rows, width)
            for turned in itertools.permutations(rows):
                self.assertEqual(rungs_of(list(turned), width), wanted)

    def test_the_same_for_other_rows_with_the_same_steps(self):
        for rows, width in TABLES + list(drawn_tables()):
            if len(rows) >= 2:
                wanted = rungs_of(rows, width)
                self.assertEqual(rungs_of([times(-1, row) for row in rows], width), wanted)
                self.assertEqual(rungs_of([plus(rows[0], times(7, rows[1]))] + rows[1:], width), wanted)
                self.assertEqual(rungs_of(rows + [less(rows[0], rows[1])], width), wanted)


class ScalesTest(unittest.TestCase):
    def check(self, rows, width):
        rungs = ladder(rows, width)
        told = scales(rungs, width)
        self.assertEqual(len(told), len(rungs))
        for place, (weights, part) in enumerate(told):
            self.assertEqual(len(weights), width)
            self.assertGreater(part, 0)
            for other, (pivot, rung, making) in enumerate(rungs):
                self.assertEqual(weighed(weights, rung), part if other == place else 0)

    def test_told_and_drawn_tables(self):
        check_tables(self, TABLES + list(drawn_tables()))

    def test_tables_as_great_as_those_of_nets(self):
        draw = Draw(63)
        for many, width in ((8, 6), (6, 6), (4, 6)):
            self.check([draw.bag(width, -1000000000, 1000000000) for _ in range(many)], width)

    def test_no_rung(self):
        self.assertEqual(scales([], 0), [])
        self.assertEqual(scales([], 3), [])


class OwnTest(unittest.TestCase):
    def test_what_is_told_is_the_askers_own(self):
        for rows, width in (([[4, 6, 1], [6, 10, 0], [0, 0, 9]], 3), ([[1, 0, 0]], 3), ([], 2), ([[0, 1], [1, 0]], 2)):
            check_own(self, ladder, rows, width)
            check_own(self, scales, ladder(rows, width), width)

    def test_kinds(self):
        rungs = ladder([[2, 4, 6], [1, 2, 4]], 3)
        for told, many in ((rungs, 3), (scales(rungs, 3), 2)):
            self.assertIs(type(told), list)
            check_kinds(self, told)
            for inner in told:
                self.assertIs(type(inner), tuple)
                self.assertEqual(len(inner), many)
        self.assertEqual([[type(thing) for thing in inner] for inner in rungs], [[int, list, list]] * 2)
        self.assertEqual([[type(thing) for thing in inner] for inner in scales(rungs, 3)], [[list, int]] * 2)

    def test_arguments_have_their_names(self):
        rungs = ladder(rows=[[2, 4]], width=2)
        self.assertEqual(rungs, ladder([[2, 4]], 2))
        self.assertEqual(scales(rungs=rungs, width=2), scales(rungs, 2))


if __name__ == "__main__":
    unittest.main()
