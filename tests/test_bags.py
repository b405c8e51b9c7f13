"""[1.1] to [1.4], and [0.2] and [0.4] for bags."""

import copy
import itertools
import unittest

from beadhall.bags import (
    beneath, floors, higher, less, lowered, measure, peaks, plus, times, weighed)
from beadhall.errors import Unlike

BIG = 10 ** 999 + 7
OF_TWO_BAGS = [plus, less, higher, weighed, beneath]
OF_A_LIST = [peaks, floors]
SMALL_BAGS = [list(bag) for bag in itertools.product((-1, 0, 2), repeat=2)]


def lies_beneath(ones, others):
    return not [k for k in range(len(ones)) if ones[k] > others[k]]


def plain_peaks(rows):
    kept = [row for row in rows if not [r for r in rows if r != row and lies_beneath(row, r)]]
    return [row for k, row in enumerate(kept) if row not in kept[:k]]


def plain_floors(rows):
    kept = [row for row in rows if not [r for r in rows if r != row and lies_beneath(r, row)]]
    return [row for k, row in enumerate(kept) if row not in kept[:k]]


class SumsTest(unittest.TestCase):
    def test_plus(self):
        self.assertEqual(plus([], []), [])
        self.assertEqual(plus([4], [-9]), [-5])
        self.assertEqual(plus([1, -2, 3], [10, 20, -30]), [11, 18, -27])
        self.assertEqual(plus([BIG, -BIG], [1, -1]), [BIG + 1, -BIG - 1])

    def test_less_is_the_first_less_the_second(self):
        self.assertEqual(less([], []), [])
        self.assertEqual(less([4], [9]), [-5])
        self.assertEqual(less([1, -2, 3], [10, 20, -30]), [-9, -22, 33])
        self.assertEqual(less([BIG, -BIG], [-BIG, 1]), [2 * BIG, -BIG - 1])

    def test_times(self):
        self.assertEqual(times(3, []), [])
        self.assertEqual(times(3, [-7]), [-21])
        self.assertEqual(times(-2, [1, 0, -5]), [-2, 0, 10])
        self.assertEqual(times(0, [4, -4]), [0, 0])
        self.assertEqual(times(1, [4, -4]), [4, -4])
        self.assertEqual(times(BIG, [BIG, -1]), [BIG * BIG, -BIG])

    def test_higher(self):
        self.assertEqual(higher([], []), [])
        self.assertEqual(higher([4], [9]), [9])
        self.assertEqual(higher([9], [4]), [9])
        self.assertEqual(higher([-9], [-4]), [-4])
        self.assertEqual(higher([1, 5, -3, 0], [2, 4, -8, 0]), [2, 5, -3, 0])
        self.assertEqual(higher([BIG, -BIG], [BIG - 1, -BIG + 1]), [BIG, -BIG + 1])

    def test_weighed(self):
        self.assertEqual(weighed([], []), 0)
        self.assertIs(type(weighed([], [])), int)
        self.assertEqual(weighed([3], [-7]), -21)
        self.assertEqual(weighed([1, 2, 3], [4, 5, 6]), 32)
        self.assertEqual(weighed([1, -2, 3], [-4, -5, 6]), 24)
        self.assertEqual(weighed([2, -2], [5, 5]), 0)
        self.assertEqual(weighed([BIG, 1], [BIG, -1]), BIG * BIG - 1)

    def test_kinds(self):
        for told in (plus([1], [2]), less([1], [2]), higher([1], [2]), times(2, [1]), lowered([2]), lowered([])):
            self.assertIs(type(told), list)
        for told in (peaks([[1]]), floors([[1]]), peaks([]), floors([]), peaks([[1]])[0], floors([[1]])[0]):
            self.assertIs(type(told), list)


class BeneathTest(unittest.TestCase):
    def test_both_ways_round(self):
        self.assertIs(beneath([1, 2], [1, 3]), True)
        self.assertIs(beneath([1, 3], [1, 2]), False)
        self.assertIs(beneath([-5], [-4]), True)
        self.assertIs(beneath([-4], [-5]), False)
        self.assertIs(beneath([BIG], [BIG + 1]), True)
        self.assertIs(beneath([BIG + 1], [BIG]), False)

    def test_neither_way_round(self):
        self.assertIs(beneath([1, 2], [2, 1]), False)
        self.assertIs(beneath([2, 1], [1, 2]), False)

    def test_one_greater_number_at_any_place_is_enough(self):
        for place in range(3):
            greater = [5, 5, 5]
            greater[place] = 6
            self.assertIs(beneath(greater, [5, 5, 5]), False)
            self.assertIs(beneath([5, 5, 5], greater), True)

    def test_a_bag_and_itself(self):
        for bag in ([], [0], [-3, 4], [BIG, -BIG]):
            self.assertIs(beneath(bag, bag), True)
            self.assertIs(beneath(bag, list(bag)), True)

    def test_all_small_bags(self):
        for ones, others in itertools.product(SMALL_BAGS, repeat=2):
            self.assertIs(beneath(ones, others), lies_beneath(ones, others))


class UnlikeTest(unittest.TestCase):
    def test_functions_of_two_bags(self):
        for asked in OF_TWO_BAGS:
            for ones, others in [([], [0]), ([1], [1, 2]), ([9, 0], [1]), ([1, 2, 3], [1, 2]), ([0, 0, 0], [])]:
                with self.subTest(asked=asked.__name__, ones=ones, others=others):
                    with self.assertRaises(Unlike):
                        asked(ones, others)
                    with self.assertRaises(Unlike):
                        asked(others, ones)

    def test_peaks_and_floors_at_each_place_of_the_list(self):
        for asked in OF_A_LIST:
            for many in (2, 3, 5):
                for place in range(many):
                    for unlike in ([], [1], [7, 7, 7]):
                        rows = [[k, -k] for k in range(many)]
                        rows[place] = unlike
                        with self.subTest(asked=asked.__name__, rows=rows):
                            with self.assertRaises(Unlike):
                                asked(rows)

    def test_peaks_and_floors_behind_like_bags(self):
        for asked in OF_A_LIST:
            for rows in ([[1, 2], [1, 2], [1]], [[1], [1, 2], [1]], [[0], [0], [0, 0]], [[], [], [0]]):
                with self.subTest(asked=asked.__name__, rows=rows):
                    with self.assertRaises(Unlike):
                        asked(rows)

    def test_bags_of_one_length_are_taken(self):
        for asked in OF_A_LIST:
            self.assertEqual(asked([[], []]), [[]])
            self.assertEqual(asked([[3]]), [[3]])


class PeaksAndFloorsTest(unittest.TestCase):
    def test_the_empty_list(self):
        self.assertEqual(peaks([]), [])
        self.assertEqual(floors([]), [])

    def test_bags_that_come_twice_are_told_once(self):
        rows = [[2, 1], [1, 2], [2, 1], [1, 2], [2, 1]]
        self.assertEqual(peaks(rows), [[2, 1], [1, 2]])
        self.assertEqual(floors(rows), [[2, 1], [1, 2]])
        self.assertEqual(peaks([[4], [4]]), [[4]])
        self.assertEqual(floors([[4], [4]]), [[4]])

    def test_chains(self):
        for rows in itertools.permutations([[0, 0], [0, 1], [1, 1], [2, 1]]):
            self.assertEqual(peaks(list(rows)), [[2, 1]])
            self.assertEqual(floors(list(rows)), [[0, 0]])

    def test_none_beneath_another_are_told_in_their_order(self):
        for rows in itertools.permutations([[0, 3], [1, 2], [2, 1], [3, -1]]):
            self.assertEqual(peaks(list(rows)), list(rows))
            self.assertEqual(floors(list(rows)), list(rows))

    def test_the_order_is_that_of_the_first_coming(self):
        rows = [[3, 0], [1, 0], [0, 3], [0, 1], [3, 0], [2, 2], [0, 3]]
        self.assertEqual(peaks(rows), [[3, 0], [0, 3], [2, 2]])
        self.assertEqual(floors(rows), [[1, 0], [0, 1]])

    def test_all_small_lists(self):
        for many in range(4):
            for rows in itertools.product(SMALL_BAGS, repeat=many):
                rows = list(rows)
                self.assertEqual(peaks(rows), plain_peaks(rows))
                self.assertEqual(floors(rows), plain_floors(rows))


class MeasureTest(unittest.TestCase):
    def test_measure(self):
        for bag, told in [
                ([], 0), ([0], 0), ([0, 0, 0], 0), ([7], 7), ([-7], 7), ([1], 1), ([-1], 1),
                ([4, 6], 2), ([6, 4], 2), ([-4, 6], 2), ([4, -6], 2), ([-4, -6], 2), ([3, 5], 1),
                ([0, 6], 6), ([6, 0], 6), ([0, -6], 6), ([12, 18, 27], 3), ([6, 10, 15], 1),
                ([8, 0, -12, 20], 4), ([BIG * 6, -BIG * 10], BIG * 2)]:
            with self.subTest(bag=bag):
                self.assertEqual(measure(bag), told)

    def test_lowered(self):
        for bag, told in [
                ([], []), ([0], [0]), ([0, 0, 0], [0, 0, 0]), ([7], [1]), ([-7], [-1]), ([1], [1]),
                ([4, 6], [2, 3]), ([-4, 6], [-2, 3]), ([4, -6], [2, -3]), ([-4, -6], [-2, -3]),
                ([3, 5], [3, 5]), ([0, -6], [0, -1]), ([12, 18, 27], [4, 6, 9]), ([8, 0, -12, 20], [2, 0, -3, 5]),
                ([BIG * 6, -BIG * 10], [3, -5])]:
            with self.subTest(bag=bag):
                self.assertEqual(lowered(bag), told)


class KeptApartTest(unittest.TestCase):
    """[0.2] for bags."""

    def calls(self):
        for asked in OF_TWO_BAGS:
            yield asked, [[6, -4], [2, 8]]
            yield asked, [[2, 8], [2, 8]]
            yield asked, [[], []]
        for many in (-2, 0, 1):
            yield times, [many, [6, -4]]
        for asked in OF_A_LIST:
            yield asked, [[[6, -4], [2, 8], [6, -4], [1, -9], [9, 9]]]
            yield asked, [[[1, 2]]]
        for asked in (measure, lowered):
            for bag in ([6, -4], [0, 0], [3, 5], [1], []):
                yield asked, [bag]

    def test_what_is_handed_in_stays_as_it_was(self):
        for asked, handed in self.calls():
            before = copy.deepcopy(handed)
            asked(*handed)
            self.assertEqual(handed, before, asked.__name__)

    def test_what_is_handed_to_a_refusal_stays_as_it_was(self):
        for asked in OF_TWO_BAGS:
            handed = [[6, -4], [2, 8, 1]]
            with self.assertRaises(Unlike):
                asked(*handed)
            self.assertEqual(handed, [[6, -4], [2, 8, 1]])
        for asked in OF_A_LIST:
            handed = [[6, -4], [7, 8], [2, 8, 1]]
            with self.assertRaises(Unlike):
                asked(handed)
            self.assertEqual(handed, [[6, -4], [7, 8], [2, 8, 1]])

    def test_a_told_list_that_is_changed_changes_nothing_else(self):
        for asked, handed in self.calls():
            before = copy.deepcopy(handed)
            told = asked(*handed)
            if not isinstance(told, list):
                continue
            right = copy.deepcopy(told)
            for row in told:
                if isinstance(row, list):
                    row.append(99)
            told.append(99)
            self.assertEqual(handed, before, asked.__name__)
            self.assertEqual(asked(*handed), right, asked.__name__)

    def test_told_rows_are_not_one_list(self):
        row = [3, 4]
        for asked in OF_A_LIST:
            told = asked([row, [4, 3], row])
            told[0].append(99)
            self.assertEqual(told[1], [4, 3])
            self.assertEqual(row, [3, 4])

    def test_the_same_asked_again_is_told_alike(self):
        for asked, handed in self.calls():
            self.assertEqual(asked(*handed), asked(*handed), asked.__name__)

    def test_arguments_have_their_names(self):
        for asked in (plus, less, higher, beneath):
            asked(ones=[1], others=[2])
        self.assertEqual(less(others=[1], ones=[5]), [4])
        self.assertEqual(times(ones=[2], many=3), [6])
        self.assertEqual(weighed(ones=[2], weights=[3]), 6)
        self.assertEqual(peaks(rows=[[1]]), floors(rows=[[1]]))
        self.assertEqual([measure(ones=[4])], times(4, lowered(ones=[4])))


if __name__ == "__main__":
    unittest.main()
