"""[4.1], [4.2], [4.3], and [0.2] and [0.4] for cleared tables and weighings."""

import itertools
import unittest

from beadhall.bags import measure, times, weighed
from beadhall.clearing import cleared, weighings

from common import Draw, added_up, check_kinds, check_own, check_tables

GREAT = 10 ** 400


def determinant(square):
    if not square:
        return 1
    return sum(
        (-1) ** place * square[0][place] * determinant([row[:place] + row[place + 1:] for row in square[1:]])
        for place in range(len(square)))


def rank(rows, width):
    """The size of the greatest square in the table whose determinant isn't nought."""
    for size in range(min(len(rows), width), 0, -1):
        for chosen in itertools.combinations(rows, size):
            for places in itertools.combinations(range(width), size):
                if determinant([[row[place] for place in places] for row in chosen]) != 0:
                    return size
    return 0


def pivots_of(rows, width):
    """A place is a pivot where the table up to it hangs together less than the table ahead of it."""
    ranks = [rank([row[:many] for row in rows], many) for many in range(width + 1)]
    return [place for place in range(width) if ranks[place + 1] > ranks[place]]


def drawn_tables():
    draw = Draw(51)
    for most in (1, 2, 9):
        for _ in range(60):
            width = draw.number(0, 4)
            rows = [draw.bag(width, -most, most) for _ in range(draw.number(0, 4))]
            yield rows, width
            if rows:
                again = added_up(rows, draw.bag(len(rows), -3, 3), width)
                yield rows + [again], width
                yield [again] + rows, width


TABLES = [
    ([], 0), ([], 1), ([], 3), ([[]], 0), ([[], [], []], 0),
    ([[0]], 1), ([[0, 0], [0, 0]], 2), ([[0, 0, 0], [0, 2, 4]], 3),
    ([[5]], 1), ([[-5]], 1), ([[6], [4]], 1), ([[0, -3, 6]], 3),
    ([[1, 2, 3], [2, 4, 6], [-3, -6, -9]], 3),
    ([[0, 0, 2], [0, 3, 0], [5, 0, 0]], 3),
    ([[2, 4], [3, 6], [1, 1]], 2),
    ([[1, 1, 0, 0], [0, 1, 1, 0], [0, 0, 1, 1], [1, 2, 2, 1]], 4),
    ([[0, 1, 2, 0, 3], [0, 2, 4, 0, 7]], 5),
    ([[GREAT, 1], [1, GREAT]], 2), ([[GREAT, -GREAT, 0], [7 * GREAT, 3, 1]], 3), ([[GREAT, GREAT * 2]], 2)]


class ClearedTest(unittest.TestCase):
    def check(self, rows, width):
        lines = cleared(rows, width)
        pivots = [pivot for pivot, line, making in lines]
        self.assertEqual(pivots, pivots_of(rows, width))
        for pivot, line, making in lines:
            self.assertEqual(len(line), width)
            self.assertEqual(measure(line), 1)
            self.assertGreater(line[pivot], 0)
            self.assertEqual([line[other] for other in pivots if other != pivot], [0] * (len(pivots) - 1))
            self.assertEqual(len(making), len(rows))
            made = added_up(rows, making, width)
            self.assertGreater(measure(made), 0)
            self.assertEqual(made, times(measure(made), line))

    def test_told_and_drawn_tables(self):
        check_tables(self, TABLES + list(drawn_tables()))

    def test_small_tables_of_every_kind(self):
        for numbers in itertools.product((-2, 0, 1, 3), repeat=4):
            self.check([list(numbers[:2]), list(numbers[2:])], 2)

    def test_tables_as_great_as_those_of_nets(self):
        draw = Draw(52)
        for _ in range(10):
            rows = [draw.bag(6, -1000000000, 1000000000) for _ in range(8)]
            lines = cleared(rows, 6)
            self.assertEqual([line for pivot, line, making in lines], [
                [1 if other == place else 0 for other in range(6)] for place in range(6)])
            for pivot, line, making in lines:
                made = added_up(rows, making, 6)
                self.assertEqual(made, times(made[pivot], line))
                self.assertGreater(made[pivot], 0)

    def test_lines(self):
        self.assertEqual([told[:2] for told in cleared([[2, 4, 6], [1, 2, 4]], 3)], [(0, [1, 2, 0]), (2, [0, 0, 1])])
        self.assertEqual([told[:2] for told in cleared([[3, 0, 2], [0, -5, 10]], 3)], [
            (0, [3, 0, 2]), (1, [0, 1, -2])])
        self.assertEqual([told[:2] for told in cleared([[0, -4, 6]], 3)], [(1, [0, 2, -3])])
        self.assertEqual([told[:2] for told in cleared([[2, 3, 0], [0, 2, 1]], 3)], [
            (0, [4, 0, -3]), (1, [0, 2, 1])])

    def test_no_line(self):
        for rows, width in (([], 0), ([], 4), ([[], []], 0), ([[0, 0]], 2)):
            self.assertEqual(cleared(rows, width), [])


class WeighingsTest(unittest.TestCase):
    def check(self, rows, width):
        told = weighings(rows, width)
        pivots = pivots_of(rows, width)
        free = [place for place in range(width) if place not in pivots]
        self.assertEqual([place for place, weights in told], free)
        for place, weights in told:
            self.assertEqual(len(weights), width)
            self.assertEqual(measure(weights), 1)
            self.assertGreater(weights[place], 0)
            self.assertEqual([weights[other] for other in free if other != place], [0] * (len(free) - 1))
            self.assertEqual([weighed(weights, row) for row in rows], [0] * len(rows))

    def test_told_and_drawn_tables(self):
        check_tables(self, TABLES + list(drawn_tables()))

    def test_weights(self):
        self.assertEqual(weighings([[3, 0, 2], [0, -5, 10]], 3), [(2, [-2, 6, 3])])
        self.assertEqual(weighings([[0, 2, -3, 4]], 4), [(0, [1, 0, 0, 0]), (2, [0, 3, 2, 0]), (3, [0, -2, 0, 1])])
        self.assertEqual(weighings([[2, 0, 1], [0, 3, 1]], 3), [(2, [-3, -2, 6])])

    def test_no_rows(self):
        self.assertEqual(weighings([], 3), [(0, [1, 0, 0]), (1, [0, 1, 0]), (2, [0, 0, 1])])
        self.assertEqual(weighings([[0, 0]], 2), [(0, [1, 0]), (1, [0, 1])])

    def test_no_free_place(self):
        for rows, width in (([], 0), ([[], []], 0), ([[7]], 1), ([[1, 2], [3, 4]], 2)):
            self.assertEqual(weighings(rows, width), [])


class OwnTest(unittest.TestCase):
    def test_what_is_told_is_the_askers_own(self):
        for rows, width in (([[2, 4, 6], [1, 2, 4], [1, 0, 0]], 3), ([[1, 0, 0]], 3), ([], 2), ([[0, 1], [1, 0]], 2)):
            check_own(self, cleared, rows, width)
            check_own(self, weighings, rows, width)

    def test_kinds(self):
        rows = [[2, 4, 6], [1, 2, 4]]
        for told in (cleared(rows, 3), weighings(rows, 3)):
            self.assertIs(type(told), list)
            check_kinds(self, told)
            for inner in told:
                self.assertIs(type(inner), tuple)
                self.assertIs(type(inner[0]), int)
                self.assertTrue(all(type(bag) is list for bag in inner[1:]))
        self.assertEqual({len(inner) for inner in cleared(rows, 3)}, {3})
        self.assertEqual({len(inner) for inner in weighings(rows, 3)}, {2})

    def test_arguments_have_their_names(self):
        self.assertEqual(cleared(rows=[[1, 2]], width=2), cleared([[1, 2]], 2))
        self.assertEqual(weighings(rows=[[1, 2]], width=2), [(1, [-2, 1])])


if __name__ == "__main__":
    unittest.main()
