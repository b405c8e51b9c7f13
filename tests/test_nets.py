"""[2.1], and [0.2] and [0.4] for nets."""

import copy
import unittest

from beadhall.errors import BadNet
from beadhall.nets import Net, bowl_at, door_at, gain

MOST = 1000000000
BOWLS = ["a", "bc", "def", "ghij", "klmno", "pqrstu"]
DOORS = ["s", "tu", "vwx", "yzab", "cdefg", "hijklm", "nopqrst", "uvwxyzab"]
BAD_NAMES = [
    "", "abcdefghi", "A", "Z", "aBc", "abC", "a1", "1", "0a", "a b", " a", "a ", " ", "-", "a-b", "_", "a_",
    "+", ">", "#", "`", "{", "a`", "z{", "~", "\t", "a\n", "\n", "\u00e9", "a\u00e9", "\u00df", "\u0430", "\u00aa"]


def parts_of(bowls, doors):
    """Parts of a net that is right, each number unlike the others."""
    return {
        "bowls": BOWLS[:bowls],
        "doors": DOORS[:doors],
        "takes": [[100 * door + bowl for bowl in range(bowls)] for door in range(doors)],
        "gives": [[1000 * door + 7 * bowl for bowl in range(bowls)] for door in range(doors)],
        "first": [31 + bowl for bowl in range(bowls)],
    }


def made(parts):
    return Net(parts["bowls"], parts["doors"], parts["takes"], parts["gives"], parts["first"])


def values(net):
    return {"bowls": net.bowls, "doors": net.doors, "takes": net.takes, "gives": net.gives, "first": net.first}


def places(many):
    """The first place, one in the middle, and the last one."""
    return sorted({0, many // 2, many - 1})


class MadeTest(unittest.TestCase):
    def test_all_sizes_within_the_bounds(self):
        for bowls in range(1, 7):
            for doors in range(9):
                parts = parts_of(bowls, doors)
                with self.subTest(bowls=bowls, doors=doors):
                    self.assertEqual(values(made(parts)), parts)

    def test_arguments_have_their_names(self):
        parts = parts_of(3, 2)
        self.assertEqual(values(Net(**parts)), parts)

    def test_values_are_lists(self):
        net = made(parts_of(2, 2))
        for told in (net.bowls, net.doors, net.takes, net.gives, net.first, net.takes[1], net.gives[1]):
            self.assertIs(type(told), list)

    def test_names_at_the_bounds(self):
        for name in ("a", "z", "abcdefgh", "zzzzzzzz", "az"):
            net = Net([name], [name], [[0]], [[0]], [0])
            self.assertEqual(values(net), {
                "bowls": [name], "doors": [name], "takes": [[0]], "gives": [[0]], "first": [0]})

    def test_bowls_and_doors_may_be_called_alike(self):
        net = Net(["a", "b"], ["b", "a"], [[1, 2], [3, 4]], [[5, 6], [7, 8]], [9, 0])
        self.assertEqual((net.bowls, net.doors), (["a", "b"], ["b", "a"]))

    def test_numbers_at_the_bounds(self):
        for number in (0, MOST):
            net = Net(["a", "b"], ["d"], [[number, number]], [[number, number]], [number, number])
            self.assertEqual((net.takes, net.gives, net.first), ([[number] * 2], [[number] * 2], [number] * 2))


class RefusedTest(unittest.TestCase):
    def refused(self, parts):
        before = copy.deepcopy(parts)
        with self.assertRaises(BadNet):
            made(parts)
        self.assertEqual(parts, before)

    def test_no_bowl(self):
        self.refused(parts_of(0, 0))
        self.refused(parts_of(0, 1))

    def test_seven_bowls(self):
        for doors in (0, 2):
            parts = parts_of(6, doors)
            parts["bowls"] = parts["bowls"] + ["more"]
            parts["first"].append(0)
            for bag in parts["takes"] + parts["gives"]:
                bag.append(0)
            self.refused(parts)

    def test_nine_doors(self):
        parts = parts_of(2, 8)
        parts["doors"] = parts["doors"] + ["more"]
        parts["takes"].append([0, 0])
        parts["gives"].append([0, 0])
        self.refused(parts)

    def test_bad_names(self):
        for what, many in (("bowls", 5), ("doors", 7)):
            for place in places(many):
                for name in BAD_NAMES:
                    parts = parts_of(5, 7)
                    parts[what][place] = name
                    with self.subTest(what=what, place=place, name=name):
                        self.refused(parts)

    def test_two_names_alike(self):
        for what, many in (("bowls", 5), ("doors", 7)):
            for one in range(many):
                for other in range(many):
                    if one != other:
                        parts = parts_of(5, 7)
                        parts[what][one] = parts[what][other]
                        with self.subTest(what=what, one=one, other=other):
                            self.refused(parts)

    def test_too_many_or_too_few_first_beads(self):
        for bowls in (1, 3, 6):
            for first in ([], [1] * (bowls - 1), [1] * (bowls + 1)):
                parts = parts_of(bowls, 1)
                parts["first"] = first
                with self.subTest(bowls=bowls, first=first):
                    self.refused(parts)

    def test_too_many_or_too_few_bags(self):
        for what in ("takes", "gives"):
            for doors in (0, 1, 8):
                parts = parts_of(2, doors)
                parts[what].append([0, 0])
                with self.subTest(what=what, doors=doors, added=1):
                    self.refused(parts)
            for doors in (1, 8):
                parts = parts_of(2, doors)
                parts[what].pop()
                with self.subTest(what=what, doors=doors, added=-1):
                    self.refused(parts)

    def test_takes_and_gives_both_too_many_or_too_few(self):
        parts = parts_of(2, 3)
        parts["takes"].append([0, 0])
        parts["gives"].append([0, 0])
        self.refused(parts)
        parts = parts_of(2, 3)
        parts["takes"].pop()
        parts["gives"].pop()
        self.refused(parts)

    def test_too_many_or_too_few_numbers_in_a_bag(self):
        for what in ("takes", "gives"):
            for door in places(7):
                for bag in ([], [1, 1], [1, 1, 1, 1]):
                    parts = parts_of(3, 7)
                    parts[what][door] = bag
                    with self.subTest(what=what, door=door, bag=bag):
                        self.refused(parts)

    def test_numbers_out_of_bounds_at_first(self):
        for bowl in places(5):
            for number in (-1, MOST + 1, -10 ** 999, 10 ** 999):
                parts = parts_of(5, 1)
                parts["first"][bowl] = number
                with self.subTest(bowl=bowl, number=number):
                    self.refused(parts)

    def test_numbers_out_of_bounds_in_a_bag(self):
        for what in ("takes", "gives"):
            for door in places(7):
                for bowl in places(5):
                    for number in (-1, MOST + 1, -10 ** 999, 10 ** 999):
                        parts = parts_of(5, 7)
                        parts[what][door][bowl] = number
                        with self.subTest(what=what, door=door, bowl=bowl, number=number):
                            self.refused(parts)


class FoundTest(unittest.TestCase):
    def test_names_that_are_found(self):
        net = made(parts_of(6, 8))
        for place, name in enumerate(BOWLS):
            self.assertEqual(bowl_at(net, name), place)
        for place, name in enumerate(DOORS):
            self.assertEqual(door_at(net, name), place)

    def test_names_that_are_not_found(self):
        net = made(parts_of(6, 8))
        for name in ["b", "zz", "bcd", "", " ", "-", "A", "a ", "\t", "~" * 50, "abcdefghi"]:
            self.assertEqual(bowl_at(net, name), -1)
            self.assertEqual(door_at(net, name), -1)
        for name in DOORS:
            self.assertEqual(bowl_at(net, name), -1)
        for name in BOWLS:
            self.assertEqual(door_at(net, name), -1)
        self.assertEqual(door_at(made(parts_of(1, 0)), "a"), -1)

    def test_a_bowl_and_a_door_called_alike(self):
        net = Net(["a", "b", "c"], ["c", "a"], [[0] * 3] * 2, [[0] * 3] * 2, [0] * 3)
        self.assertEqual([bowl_at(net, name) for name in ("a", "b", "c")], [0, 1, 2])
        self.assertEqual([door_at(net, name) for name in ("a", "b", "c")], [1, -1, 0])


class GainTest(unittest.TestCase):
    def test_gain_is_what_is_given_less_what_is_taken(self):
        net = Net(["a", "b", "c"], ["d", "e"], [[1, 5, 0], [0, 0, MOST]], [[4, 2, 0], [MOST, 0, 0]], [0, 0, 0])
        self.assertEqual(gain(net, 0), [3, -3, 0])
        self.assertEqual(gain(net, 1), [MOST, 0, -MOST])
        self.assertIs(type(gain(net, 0)), list)
        self.assertEqual(gain(net=net, door=0), [3, -3, 0])

    def test_each_door_has_its_own(self):
        parts = parts_of(6, 8)
        net = made(parts)
        for door in range(8):
            self.assertEqual(
                gain(net, door), [parts["gives"][door][bowl] - parts["takes"][door][bowl] for bowl in range(6)])


class KeptApartTest(unittest.TestCase):
    """[0.2] for nets."""

    def test_what_is_handed_in_stays_as_it_was(self):
        parts = parts_of(3, 3)
        net = made(parts)
        bowl_at(net, "a")
        door_at(net, "none")
        gain(net, 2)
        self.assertEqual(parts, parts_of(3, 3))
        self.assertEqual(values(net), parts_of(3, 3))

    def test_a_net_stays_as_it_is_where_its_lists_are_changed(self):
        parts = parts_of(3, 3)
        net = made(parts)
        for bag in parts["takes"] + parts["gives"] + [parts["first"]]:
            bag[0] = 77
            bag.append(88)
        for what in ("takes", "gives"):
            parts[what].append([5, 5, 5])
        for what in ("bowls", "doors"):
            parts[what][0] = "other"
            parts[what].append("more")
        self.assertEqual(values(net), parts_of(3, 3))
        self.assertEqual(gain(net, 0), [0, 6, 12])
        self.assertEqual((bowl_at(net, "other"), door_at(net, "more")), (-1, -1))

    def test_nets_made_of_the_same_lists_are_apart(self):
        parts = parts_of(2, 2)
        one = made(parts)
        other = made(parts)
        one.first.append(99)
        one.takes[0].append(99)
        one.gives[0].append(99)
        one.bowls.append("x")
        one.doors.append("x")
        self.assertEqual(values(other), parts_of(2, 2))

    def test_a_told_gain_that_is_changed_changes_nothing(self):
        for takes in ([0, 0], [1, 2]):
            net = Net(["a", "b"], ["d"], [takes], [[3, 5]], [0, 0])
            told = gain(net, 0)
            right = list(told)
            told[0] = 99
            told.append(99)
            self.assertEqual(gain(net, 0), right)
            self.assertEqual((net.takes, net.gives), ([takes], [[3, 5]]))


if __name__ == "__main__":
    unittest.main()
