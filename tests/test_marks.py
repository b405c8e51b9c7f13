"""[6.1], [6.2], and [0.2] and [0.4] for marks."""

import itertools
import unittest

from beadhall.goings import after, may
from beadhall.marks import mark_after, may_mark, peak_marks, raised, under

from common import Draw, at_of, box, check_kinds, check_own, net_of

GREAT = 10 ** 999
SMALL = [list(mark) for mark in itertools.product((None, 0, 1, 2), repeat=2)]

NET = net_of([3, 0, 7], [
    ([2, 0, 0], [0, 1, 0]),
    ([1, 2, 3], [0, 0, 4]),
    ([0, 0, 0], [1, 0, 5]),
    ([1, 1, 0], [1, 1, 0])])


def lies_under(low, high):
    """As the document tells it, place by place, with beads without end as more than any number here."""
    return all((5 if one is None else one) <= (5 if other is None else other) for one, other in zip(low, high))


class UnderTest(unittest.TestCase):
    def test_none_lies_under_none_alone(self):
        self.assertIs(under([None], [None]), True)
        self.assertIs(under([None], [0]), False)
        self.assertIs(under([None], [GREAT]), False)
        self.assertIs(under([0], [None]), True)
        self.assertIs(under([GREAT], [None]), True)

    def test_none_at_some_places(self):
        self.assertIs(under([1, None, 2], [1, None, 2]), True)
        self.assertIs(under([1, 7, 2], [1, None, 2]), True)
        self.assertIs(under([1, None, 2], [None, None, None]), True)
        self.assertIs(under([1, None, 2], [1, 7, 2]), False)
        self.assertIs(under([2, None, 2], [1, None, 2]), False)
        self.assertIs(under([1, None, 3], [1, None, 2]), False)
        self.assertIs(under([None, 0, 0], [5, 5, None]), False)

    def test_numbers(self):
        self.assertIs(under([1, 2], [1, 2]), True)
        self.assertIs(under([1, 2], [2, 2]), True)
        self.assertIs(under([1, 2], [2, 1]), False)
        self.assertIs(under([GREAT, 0], [GREAT, 0]), True)
        self.assertIs(under([GREAT + 1, 0], [GREAT, 0]), False)

    def test_all_small_marks(self):
        for low in SMALL:
            self.assertIs(under(low, low), True)
            for high in SMALL:
                self.assertIs(under(low, high), lies_under(low, high))


class RaisedTest(unittest.TestCase):
    def test_of_each_kind(self):
        self.assertEqual(raised([1, 2], [1, 3]), [1, None])
        self.assertEqual(raised([1, 2], [5, 3]), [None, None])
        self.assertEqual(raised([1, 2, 0], [2, None, 0]), [None, None, 0])
        self.assertEqual(raised([None, 2, 0], [None, 2, 9]), [None, 2, None])
        self.assertEqual(raised([GREAT, 1], [GREAT + 1, 1]), [None, 1])

    def test_none(self):
        self.assertIs(raised([1, 2], [1, 2]), None)
        self.assertIs(raised([1, 2], [3, 1]), None)
        self.assertIs(raised([1, 2], [1, None]), None)
        self.assertIs(raised([None, 2], [None, 2]), None)
        self.assertIs(raised([None, 2], [3, 3]), None)
        self.assertIs(raised([1, 2], [None, None]), None)

    def test_all_small_marks(self):
        for low in SMALL:
            for mark in SMALL:
                places = [
                    place for place in range(2)
                    if low[place] is not None and mark[place] is not None and low[place] != mark[place]]
                if lies_under(low, mark) and places:
                    self.assertEqual(raised(low, mark), [
                        None if place in places else mark[place] for place in range(2)])
                else:
                    self.assertIs(raised(low, mark), None)


class PeakMarksTest(unittest.TestCase):
    def test_lists(self):
        self.assertEqual(peak_marks([]), [])
        self.assertEqual(peak_marks([[1, None]]), [[1, None]])
        self.assertEqual(peak_marks([[1, 2], [1, None], [2, 0]]), [[1, None], [2, 0]])
        self.assertEqual(peak_marks([[None, None], [None, 3], [4, 4]]), [[None, None]])
        self.assertEqual(peak_marks([[2, 0], [None, 0], [0, None]]), [[None, 0], [0, None]])

    def test_equal_ones_are_told_once_where_they_first_come(self):
        self.assertEqual(peak_marks([[0, None], [1, 1], [0, None], [1, 1], [0, 9]]), [[0, None], [1, 1]])
        self.assertEqual(peak_marks([[3, 3]] * 4), [[3, 3]])

    def test_drawn_lists(self):
        draw = Draw(111)
        for _ in range(200):
            marks = [SMALL[draw.number(0, len(SMALL) - 1)] for _ in range(draw.number(0, 5))]
            wanted = []
            for mark in marks:
                if mark not in wanted and not any(lies_under(mark, other) and other != mark for other in marks):
                    wanted.append(mark)
            self.assertEqual(peak_marks(marks), wanted)


class DoorTest(unittest.TestCase):
    def test_may(self):
        self.assertIs(may_mark(NET, [None, 0, 0], 0), True)
        self.assertIs(may_mark(NET, [2, None, None], 0), True)
        self.assertIs(may_mark(NET, [1, None, None], 0), False)
        self.assertIs(may_mark(NET, [None, None, None], 1), True)
        self.assertIs(may_mark(NET, [None, 2, 3], 1), True)
        self.assertIs(may_mark(NET, [None, 1, None], 1), False)
        self.assertIs(may_mark(NET, [None, None, 2], 1), False)
        self.assertIs(may_mark(NET, [0, 0, 0], 2), True)

    def test_mark_behind(self):
        self.assertEqual(mark_after(NET, [None, 0, 0], 0), [None, 1, 0])
        self.assertEqual(mark_after(NET, [2, None, 4], 0), [0, None, 4])
        self.assertEqual(mark_after(NET, [None, None, None], 1), [None, None, None])
        self.assertEqual(mark_after(NET, [GREAT, None, 3], 1), [GREAT - 1, None, 4])
        self.assertEqual(mark_after(NET, [0, 0, None], 2), [1, 0, None])
        self.assertEqual(mark_after(NET, [1, 1, None], 3), [1, 1, None])

    def test_refused(self):
        self.assertEqual(at_of(self, mark_after, NET, [1, None, None], 0), 0)
        self.assertEqual(at_of(self, mark_after, NET, [None, None, 2], 1), 0)
        self.assertEqual(at_of(self, mark_after, NET, [None, 0, None], 3), 0)

    def test_beads_are_marks(self):
        draw = Draw(112)
        for _ in range(20):
            net = draw.net(2, 3, 3)
            for beads in box(2, 4):
                for door in range(3):
                    self.assertIs(may_mark(net, beads, door), may(net, beads, door))
                    if may(net, beads, door):
                        self.assertEqual(mark_after(net, beads, door), after(net, beads, door))
                    else:
                        self.assertEqual(at_of(self, mark_after, net, beads, door), 0)

    def test_none_goes_like_plenty(self):
        draw = Draw(113)
        for _ in range(20):
            net = draw.net(2, 3, 3)
            for mark in SMALL:
                beads = [100 if number is None else number for number in mark]
                for door in range(3):
                    self.assertIs(may_mark(net, mark, door), may(net, beads, door))
                    if may(net, beads, door):
                        behind = after(net, beads, door)
                        self.assertEqual(mark_after(net, mark, door), [
                            None if mark[bowl] is None else behind[bowl] for bowl in range(2)])


class OwnTest(unittest.TestCase):
    def test_what_is_told_is_the_askers_own(self):
        check_own(self, under, [1, None], [1, None])
        check_own(self, raised, [1, 2, None], [1, 3, None])
        check_own(self, raised, [1, 2], [1, 2])
        check_own(self, peak_marks, [[0, None], [1, 1], [0, None], [0, 0]])
        check_own(self, may_mark, NET, [2, None, 0], 0)
        check_own(self, mark_after, NET, [2, None, 0], 0)
        check_own(self, mark_after, NET, [None, None, None], 0)

    def test_kinds(self):
        for told in (mark_after(NET, [2, None, 0], 0), raised([1, 2], [1, 3]), peak_marks([[1, None]])):
            self.assertIs(type(told), list)
            check_kinds(self, told)
        self.assertIs(type(peak_marks([[1, None]])[0]), list)

    def test_arguments_have_their_names(self):
        self.assertIs(under(low=[1], high=[2]), True)
        self.assertIs(may_mark(net=NET, mark=[2, 0, 0], door=0), True)
        self.assertEqual(mark_after(net=NET, mark=[2, 0, 0], door=0), [0, 1, 0])
        self.assertEqual(raised(low=[1], mark=[2]), [None])
        self.assertEqual(peak_marks(marks=[[1], [2]]), [[2]])


if __name__ == "__main__":
    unittest.main()
