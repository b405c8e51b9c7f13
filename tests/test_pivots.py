"""[8.1], [8.2], and [0.2] and [0.4] for choices."""

import itertools
import unittest

from beadhall.pivots import best_point

from common import Draw, check_kinds, check_own

GREAT = 10 ** 999


def weigh(weights, numbers):
    return sum(weight * number for weight, number in zip(weights, numbers, strict=True))


def whole_points(rows, rooms, width, most):
    """All points over the part 1 that fit, with numbers up to the told one."""
    for point in itertools.product(range(most + 1), repeat=width):
        if all(weigh(row, point) <= room for row, room in zip(rows, rooms)):
            yield list(point)


class PivotsTest(unittest.TestCase):
    def check(self, rows, rooms, costs):
        """What is told is looked through by the words of the document; its kind is given back."""
        told = best_point(rows, rooms, costs)
        self.assertIs(type(told), tuple)
        check_kinds(self, told)
        for part in told[1:]:
            self.assertIn(type(part), (int, list))
        if told[0] == "ray":
            self.check_ray(rows, costs, told)
        else:
            self.check_best(rows, rooms, costs, told)
        return told[0]

    def check_ray(self, rows, costs, told):
        kind, ray = told
        self.assertEqual(len(ray), len(costs))
        self.assertTrue(all(number >= 0 for number in ray))
        self.assertTrue(all(weigh(row, ray) <= 0 for row in rows))
        self.assertGreater(weigh(costs, ray), 0)

    def check_best(self, rows, rooms, costs, told):
        kind, point, part, weights, scale = told
        self.assertEqual(kind, "best")
        self.assertEqual((len(point), len(weights)), (len(costs), len(rows)))
        self.assertGreater(part, 0)
        self.assertGreater(scale, 0)
        self.assertTrue(all(number >= 0 for number in point + weights))
        for row, room in zip(rows, rooms, strict=True):
            self.assertLessEqual(weigh(row, point), part * room)
        for place, cost in enumerate(costs):
            self.assertLessEqual(cost * scale, weigh(weights, [row[place] for row in rows]))
        self.assertEqual(scale * weigh(costs, point), part * weigh(weights, rooms))

    def test_no_rows(self):
        self.assertEqual(best_point([], [], []), ("best", [], 1, [], 1))
        self.assertEqual(self.check([], [], [0, -1]), "best")
        self.assertEqual(self.check([], [], [0, -1, 1]), "ray")

    def test_no_width(self):
        for rooms in ([0], [5], [0, 7], [3] * 8):
            self.assertEqual(self.check([[] for _ in rooms], rooms, []), "best")

    def test_a_best_point(self):
        kind, point, part, weights, scale = best_point([[2]], [5], [3])
        self.assertEqual((kind, point[0] * 2, weights[0] * 2), ("best", part * 5, scale * 3))
        # Of 3 x + 2 y under x + y <= 4 and x + 3 y <= 6 the best is x = 4, of 5 x + 6 y it is x = 3, y = 1.
        for costs, wanted in (([3, 2], [4, 0]), ([5, 6], [3, 1]), ([1, 9], [0, 2])):
            kind, point, part, weights, scale = best_point([[1, 1], [1, 3]], [4, 6], costs)
            self.assertEqual((kind, point), ("best", [part * number for number in wanted]))
            self.check([[1, 1], [1, 3]], [4, 6], costs)

    def test_the_point_nought(self):
        for costs in ([0, 0], [-1, 0], [-5, -7]):
            self.assertEqual(self.check([[1, 1]], [3], costs), "best")
            kind, point, part, weights, scale = best_point([[1, 1]], [3], costs)
            self.assertEqual(costs[0] * point[0] + costs[1] * point[1], 0)
        # Where the room is nought, there may be no other point.
        self.assertEqual(best_point([[1, 1]], [0], [5, 7])[1], [0, 0])

    def test_rays(self):
        self.assertEqual(self.check([[-1]], [0], [1]), "ray")
        self.assertEqual(self.check([[1, -1]], [0], [1, 0]), "ray")
        self.assertEqual(self.check([[1, -1], [-2, 1]], [0, 0], [1, 0]), "ray")
        self.assertEqual(self.check([[1, -1], [-2, 3]], [3, 3], [1, 0]), "best")
        # The ray keeps within rows that weigh it nought, and costs less than it pays.
        self.assertEqual(self.check([[1, -1], [-1, 1]], [2, 2], [3, -2]), "ray")
        self.assertEqual(self.check([[1, -1], [-1, 1]], [2, 2], [2, -2]), "best")
        self.assertEqual(self.check([[1, -1], [-1, 1]], [2, 2], [2, -3]), "best")

    def test_the_same_point_many_times(self):
        # Known choices in which the place that pays most leads round and round.
        self.assertEqual(self.check(
            [[25, -6000, -4, 900], [50, -9000, -2, 300], [0, 0, 1, 0]], [0, 0, 1], [75, -15000, 2, -600]), "best")
        self.assertEqual(self.check(
            [[1, -11, -5, 18], [1, -3, -1, 2], [2, 0, 0, 0]], [0, 0, 2], [10, -57, -9, -24]), "best")
        self.assertEqual(self.check(
            [[-2, -9, 1, 9], [1, 3, -1, -6]], [0, 0], [2, 3, -1, -12]), "ray")
        self.assertEqual(self.check(
            [[-2, -9, 1, 9], [1, 3, -1, -6], [2, 3, -1, -12]], [0, 0, 2], [2, 3, -1, -12]), "best")

    def test_draws_between_rows(self):
        # Choices that never end where draws are settled by the first row, the last row or the last base.
        for rows, costs in (
                ([[0, 2, -6, 6, -9], [7, 12, -8, 5, -10]], [-8, 11, -11, -6, -1]),
                ([[6, 2, -5, 1, -4], [3, -3, -6, 1, -3], [1, -4, 3, 2, 3]], [-6, -2, -6, 1, 5]),
                ([[-2, -3, 2, -6, 3, 1], [1, 1, -6, -2, 3, -2]], [-3, -2, 1, -3, -2, 1]),
                ([[0, 3, 1, -6, -8, 3], [3, -12, 10, 5, 4, -8]], [-8, 1, -8, -8, -5, 6]),
                ([[8, 11, 8, -1], [-12, -12, 4, -2]], [2, 3, -9, 3]),
                ([[2, 5, 5, 0, 0, 4], [-5, -6, -5, 4, -6, -5]], [1, 3, -2, -6, 5, 3])):
            self.check(rows, [0] * len(rows), costs)

    def test_rooms_of_nought(self):
        draw = Draw(211)
        kinds = []
        for _ in range(250):
            width = draw.number(0, 8)
            many = draw.number(0, 8)
            rows = [draw.bag(width, -2, 2) for _ in range(many)]
            kinds.append(self.check(rows, [0] * many, draw.bag(width, -3, 3)))
        self.assertGreater(min(kinds.count("ray"), kinds.count("best")), 40)

    def test_all_sizes(self):
        draw = Draw(212)
        kinds = []
        for many in range(9):
            for width in range(9):
                for low, high in ((-3, 3), (-2, 6), (0, 5), (-10 ** 9, 10 ** 9)):
                    rows = [draw.bag(width, low, high) for _ in range(many)]
                    kinds.append(self.check(rows, draw.sparse(many, 9), draw.bag(width, -5, 5)))
        self.assertGreater(min(kinds.count("ray"), kinds.count("best")), 60)

    def test_no_whole_point_is_worth_more(self):
        draw = Draw(213)
        bests = 0
        for _ in range(120):
            width = draw.number(1, 3)
            rows = [draw.bag(width, -2, 3) for _ in range(draw.number(1, 3))]
            rooms = draw.bag(len(rows), 0, 5)
            costs = draw.bag(width, -3, 3)
            told = best_point(rows, rooms, costs)
            if told[0] == "best":
                bests += 1
                for point in whole_points(rows, rooms, width, 6):
                    self.assertLessEqual(weigh(costs, point) * told[2], weigh(costs, told[1]))
        self.assertGreater(bests, 40)

    def test_great_numbers(self):
        self.assertEqual(self.check([[GREAT]], [GREAT - 1], [1]), "best")
        self.assertEqual(self.check([[1, GREAT], [GREAT, 1]], [GREAT, GREAT], [1, GREAT]), "best")
        self.assertEqual(self.check([[GREAT, -GREAT + 1]], [0], [1, -1]), "best")
        self.assertEqual(self.check([[GREAT, -GREAT - 1]], [0], [1, -1]), "ray")
        draw = Draw(214)
        kinds = []
        for _ in range(12):
            width = draw.number(4, 8)
            rows = [[draw.number(-9, 9) * GREAT // draw.number(1, 10 ** 9) for _ in range(width)] for _ in range(7)]
            rooms = [draw.number(0, 9) * GREAT // draw.number(1, 10 ** 9) for _ in range(7)]
            kinds.append(self.check(rows, rooms, [number * GREAT // 7 for number in draw.bag(width, -9, 9)]))
        self.assertEqual(set(kinds), {"ray", "best"})

    def test_what_is_told_is_the_askers_own(self):
        for rows, rooms, costs in (
                ([], [], []), ([[1, 1], [1, 3]], [4, 6], [5, 6]), ([[1, -1]], [0], [1, 0]),
                ([[], []], [1, 0], []), ([[1, 1], [1, 1]], [0, 0], [0, 0])):
            check_own(self, best_point, rows, rooms, costs)

    def test_arguments_have_their_names(self):
        self.assertEqual(best_point(rows=[], rooms=[], costs=[]), ("best", [], 1, [], 1))


if __name__ == "__main__":
    unittest.main()
