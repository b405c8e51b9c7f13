"""[2.2] to [2.4], and [0.2] for read nets."""

import itertools
import unittest

from beadhall.errors import BadText
from beadhall.nets import Net, gain
from beadhall.reading import net_text, read_net

MOST = 1000000000
BAD_NAMES = [
    "abcdefghi", "A", "aB", "a1", "1", "0", "a-b", "a_", "-", "+", ">", "#", "a#", "`", "{", "~", "\t", "a\t", "\ta"]
BAD_COUNTS = [
    "00", "01", "007", "0000000000", "0000000001", "+1", "-1", "-0", "+0", "1000000001", "9999999999",
    "10000000000", "12345678901", "00000000001", "1" * 999, "1" * 5000, "a", "1a", "a1", "1_0", "1.0", "1e3", "0x1",
    "1\t", "\t1", "\t", "-", "+", ">", "*", "#"]


def values(net):
    return (net.bowls, net.doors, net.takes, net.gives, net.first)


def read(*rows):
    return values(read_net("\n".join(rows)))


class ReadTest(unittest.TestCase):
    def test_bowls(self):
        self.assertEqual(read("bowl a 0"), (["a"], [], [], [], [0]))
        self.assertEqual(read("bowl b 3", "bowl a 1000000000"), (["b", "a"], [], [], [], [3, MOST]))
        self.assertEqual(
            read("bowl abcdefgh 10", "bowl z 999999999", "bowl zz 1", "bowl c 20", "bowl d 100", "bowl e 9"),
            (["abcdefgh", "z", "zz", "c", "d", "e"], [], [], [], [10, 999999999, 1, 20, 100, 9]))

    def test_doors(self):
        self.assertEqual(
            read("bowl a 1", "bowl b 2", "door go 3 a > 4 b", "door abcdefgh 1 b > 1000000000 a"),
            (["a", "b"], ["go", "abcdefgh"], [[3, 0], [0, 1]], [[0, 4], [MOST, 0]], [1, 2]))

    def test_parts_of_nothing(self):
        self.assertEqual(
            read("bowl a 1", "door d - > -", "door e 2 a > -", "door f - > 3 a"),
            (["a"], ["d", "e", "f"], [[0], [2], [0]], [[0], [0], [3]], [1]))

    def test_pieces_in_any_order(self):
        for takes in itertools.permutations(["1 a", "20 b", "300 c"]):
            for gives in itertools.permutations(["4 a", "5 c"]):
                row = "door d " + " + ".join(takes) + " > " + " + ".join(gives)
                self.assertEqual(
                    read("bowl a 0", "bowl b 0", "bowl c 0", row),
                    (["a", "b", "c"], ["d"], [[1, 20, 300]], [[4, 0, 5]], [0, 0, 0]))

    def test_a_bowl_in_both_parts(self):
        self.assertEqual(read("bowl a 1", "door d 2 a > 5 a"), (["a"], ["d"], [[2]], [[5]], [1]))

    def test_a_bowl_and_a_door_called_alike(self):
        self.assertEqual(read("bowl a 1", "door a 1 a > -"), (["a"], ["a"], [[1]], [[0]], [1]))
        self.assertEqual(
            read("bowl bowl 1", "bowl door 2", "door door 1 door > 3 bowl", "door bowl - > -"),
            (["bowl", "door"], ["door", "bowl"], [[0, 1], [0, 0]], [[3, 0], [0, 0]], [1, 2]))

    def test_doors_ahead_of_bowls(self):
        self.assertEqual(
            read("door x - > -", "bowl a 1", "door y 1 a > 2 a", "bowl b 2", "bowl c 3", "door z 7 c > 8 b"),
            (["a", "b", "c"], ["x", "y", "z"], [[0, 0, 0], [1, 0, 0], [0, 0, 7]], [[0, 0, 0], [2, 0, 0], [0, 8, 0]],
             [1, 2, 3]))

    def test_idle_rows(self):
        right = (["a"], ["d"], [[1]], [[0]], [1])
        self.assertEqual(read("", "#", "# bowl b 1", "#bowl", "bowl a 1", "", "##", "#\t", "door d 1 a > -", ""), right)
        self.assertEqual(read("", "", "bowl a 1", "door d 1 a > -", "#end"), right)

    def test_a_line_feed_behind_the_last_row(self):
        right = (["a"], [], [], [], [1])
        self.assertEqual(values(read_net("bowl a 1\n")), right)
        self.assertEqual(values(read_net("\n\nbowl a 1\n\n\n")), right)

    def test_as_many_bowls_and_doors_as_may_be(self):
        rows = [f"bowl {name} {k}" for k, name in enumerate("abcdef")] + [f"door {name} - > -" for name in "abcdefgh"]
        self.assertEqual(
            read(*rows),
            (list("abcdef"), list("abcdefgh"), [[0] * 6] * 8, [[0] * 6] * 8, [0, 1, 2, 3, 4, 5]))

    def test_counts_at_the_bounds(self):
        for count in ("1", "9", "10", "999999999", "1000000000"):
            self.assertEqual(
                read(f"bowl a {count}", f"door d {count} a > {count} a"),
                (["a"], ["d"], [[int(count)]], [[int(count)]], [int(count)]))

    def test_a_net_is_read(self):
        net = read_net(text="bowl a 1\ndoor d 2 a > 7 a")
        self.assertIsInstance(net, Net)
        self.assertEqual(gain(net, 0), [5])


class RefusedTest(unittest.TestCase):
    def refused(self, text, row):
        with self.subTest(text=text[:200], row=row):
            with self.assertRaises(BadText) as taken:
                read_net(text)
            self.assertEqual(taken.exception.row, row)
            self.assertIs(type(taken.exception.row), int)

    def refused_row(self, row):
        """The row alone is bad, wherever it stands."""
        ahead = ["bowl a 1", "bowl b 2", "door go 1 a > 1 b"]
        self.refused("\n".join(ahead + [row]), 4)
        self.refused("\n".join(["", "# bowl c"] + ahead + ["", "#", row, "", "bowl c 3"]), 8)
        self.refused("\n".join(ahead + [row, "bowl", "nothing", row]), 4)

    def test_no_row_tells_a_bowl(self):
        for text in ("", "\n", "\n\n\n", "#", "# bowl a 1", "#bowl a 1\n", "door d - > -", "\ndoor d - > -\n#\n"):
            self.refused(text, 0)

    def test_a_wrong_row_comes_ahead_of_there_being_no_bowl(self):
        self.refused("door d - > -\ndoor d - > -", 2)
        self.refused(" ", 1)
        self.refused("\n#\nbowl a 01\n", 3)
        self.refused("\t", 1)

    def test_other_kinds_of_rows(self):
        for row in [
                "bow c 1", "bowls c 1", "Bowl c 1", "BOWL c 1", "doors d - > -", "Door d - > -", "c 1", "-", ">", "x",
                " # idle", "\t#", "\t", " ", "  ", "b", "bowl#", "+", "net"]:
            self.refused_row(row)

    def test_too_many_or_too_few_words(self):
        for row in [
                "bowl", "bowl c", "bowl c ", "bowl c 1 1", "bowl c 1 c", "bowl 1 c", "bowl c 1 #", "door", "door d", "door d -",
                "door d >", "door d - >", "door d > -", "door d - -", "door d - > - -", "door d - - > -", "door - > -",
                "door d - > - >", "door d - > - > -", "door d > > -", "door > - > -", "door d - > - # idle",
                "door d d - > -", "bowl bowl c 1", "door d - = -", "door d - < -", "door d - >> -", "door d 1 a 1 b"]:
            self.refused_row(row)

    def test_tabs_and_blanks_too_many(self):
        for row in [
                " bowl c 1", "bowl c 1 ", "bowl  c 1", "bowl c  1", "bowl ", "bowl\tc\t1", "bowl c\t1", "bowl\tc 1",
                "\tbowl c 1", "bowl c 1\t", "bowl \tc 1", " door d - > -", "door d - > - ", "door  d - > -",
                "door d  - > -", "door d -  > -", "door d - >  -", "door d 1  a > -", "door d 1 a  + 1 b > -",
                "door d 1 a +  1 b > -", "door\td - > -", "door d\t- > -", "door d -\t> -", "door d - >\t-",
                "door d 1\ta > -", "door d 1 a\t+ 1 b > -", "door d 1 a\t > -", "door d - > -\t", "\tdoor d - > -"]:
            self.refused_row(row)

    def test_names_that_are_no_names(self):
        for name in BAD_NAMES:
            self.refused_row(f"bowl {name} 1")
            self.refused_row(f"door {name} - > -")
        self.refused_row("bowl  1")
        self.refused_row("door  - > -")

    def test_names_that_stand_twice(self):
        self.refused_row("bowl a 1")
        self.refused_row("bowl b 2")
        self.refused_row("bowl b 7")
        self.refused_row("door go 1 a > 1 b")
        self.refused_row("door go - > -")
        self.refused("bowl a 1\nbowl a 1", 2)
        self.refused("door d - > -\nbowl d 1\ndoor e - > -\ndoor d - > -", 4)

    def test_bad_counts(self):
        for count in BAD_COUNTS:
            self.refused_row(f"bowl c {count}")
        for count in BAD_COUNTS + ["0"]:
            self.refused_row(f"door d {count} a > -")
            self.refused_row(f"door d - > {count} a")
            self.refused_row(f"door d 1 a + {count} b > -")
            self.refused_row(f"door d - > 1 b + {count} a")

    def test_bad_parts(self):
        for part in [
                "", "a", "1", "1 a +", "+ 1 a", "+", "1 a 1 b", "1 a + b", "1 a + 1", "1 a + + 1 b", "1 a - 1 b",
                "- 1 a", "1 a + -", "- + 1 a", "--", "-1 a", "a 1", "1a", "1 a+1 b", "1 a , 1 b", "1 a + 1 b +",
                "1 a 1", "1 a b", "- -", "0", "1 a + 1 b 1 a", "1 a > 1 b"]:
            self.refused_row(f"door d {part} > -")
            self.refused_row(f"door d - > {part}")

    def test_a_bowl_twice_in_one_part(self):
        for part in ("1 a + 1 a", "1 a + 2 a", "1 a + 1 b + 1 a", "1 b + 1 a + 1 a"):
            self.refused_row(f"door d {part} > -")
            self.refused_row(f"door d - > {part}")

    def test_bowls_that_are_not_told_ahead(self):
        for name in ("c", "go", "d", "ab", "A", "-", "bowl", ""):
            self.refused_row(f"door d 1 {name} > -")
            self.refused_row(f"door d - > 1 {name}")
            self.refused_row(f"door d 1 a + 1 {name} > -")
        self.refused("door d 1 a > -\nbowl a 1", 1)
        self.refused("bowl a 1\ndoor d - > 1 b\nbowl b 1", 2)
        self.refused("bowl a 1\n#bowl b 1\ndoor d - > 1 b", 3)

    def test_a_seventh_bowl(self):
        rows = [f"bowl {name} 1" for name in "abcdef"]
        self.refused("\n".join(rows + ["bowl g 1"]), 7)
        self.refused("\n".join(["#", "door a - > -"] + rows + ["", "bowl g 1", "bowl h 01"]), 10)

    def test_a_ninth_door(self):
        rows = [f"door {name} - > -" for name in "abcdefgh"]
        self.refused("\n".join(["bowl a 1"] + rows + ["door i - > -"]), 10)
        self.refused("\n".join(rows + ["", "door i - > -", "bowl a 1"]), 10)

    def test_the_first_wrong_row_is_told(self):
        right = ["bowl a 1", "door d 1 a > -", "bowl b 1", "door e 1 b > 1 a"]
        wrong = ["bowl c 01", "door f 1 z > -", "nothing"]
        for place in range(5):
            for one, other in itertools.product(wrong, repeat=2):
                rows = right[:place] + [one] + right[place:] + [other]
                self.refused("\n".join(rows), place + 1)

    def test_nothing_of_a_refused_text_is_kept(self):
        self.refused("bowl a 1\ndoor d - > -\nbowl a 1", 3)
        self.assertEqual(read("bowl a 2", "door d 1 a > -"), (["a"], ["d"], [[1]], [[0]], [2]))


class WrittenTest(unittest.TestCase):
    def test_the_text(self):
        net = Net(["b", "a", "c"], ["y", "x", "z"],
                  [[1, 0, 20], [0, 0, 0], [0, 5, 0]], [[0, 0, 0], [3, 4, MOST], [0, 5, 0]], [0, 7, MOST])
        self.assertEqual(net_text(net), "\n".join([
            "bowl b 0", "bowl a 7", "bowl c 1000000000",
            "door y 1 b + 20 c > -", "door x - > 3 b + 4 a + 1000000000 c", "door z 5 a > 5 a"]))
        self.assertEqual(net_text(net=net), net_text(net))

    def test_a_net_without_doors(self):
        self.assertEqual(net_text(Net(["a"], [], [], [], [3])), "bowl a 3")
        self.assertEqual(net_text(Net(["a", "b"], [], [], [], [3, 0])), "bowl a 3\nbowl b 0")

    def test_doors_of_nothing(self):
        self.assertEqual(net_text(Net(["a"], ["d"], [[0]], [[0]], [0])), "bowl a 0\ndoor d - > -")

    def test_what_was_read_is_written_in_order(self):
        text = "# a net\n\ndoor x - > -\nbowl b 1\ndoor y 2 b > -\nbowl a 0\ndoor z 4 a + 3 b > 1 b\n"
        self.assertEqual(
            net_text(read_net(text)),
            "bowl b 1\nbowl a 0\ndoor x - > -\ndoor y 2 b > -\ndoor z 3 b + 4 a > 1 b")

    def test_read_back_to_the_same(self):
        for bowls in range(1, 7):
            for doors in range(9):
                takes = [[(7 * door + 5 * bowl) * (door + bowl) % 4 for bowl in range(bowls)] for door in range(doors)]
                gives = [[(door + 3 * bowl) % 5 * 250000000 for bowl in range(bowls)] for door in range(doors)]
                net = Net(list("fbdace")[:bowls], list("hgfabcde")[:doors], takes, gives, list(range(bowls)))
                text = net_text(net)
                self.assertEqual(values(read_net(text)), values(net))
                self.assertEqual(net_text(read_net(text)), text)


class KeptApartTest(unittest.TestCase):
    """[0.2] for reading and writing."""

    TEXT = "bowl a 1\nbowl b 2\ndoor d 1 a > 2 b"

    def test_read_nets_are_apart(self):
        one = read_net(self.TEXT)
        other = read_net(self.TEXT)
        self.assertEqual(values(one), values(other))
        for told in (one.bowls, one.doors, one.takes, one.gives, one.first, one.takes[0], one.gives[0]):
            told.append(99)
        self.assertEqual(values(other), (["a", "b"], ["d"], [[1, 0]], [[0, 2]], [1, 2]))
        self.assertEqual(values(read_net(self.TEXT)), values(other))

    def test_a_net_stays_as_it_is_where_it_is_written(self):
        net = Net(["a", "b"], ["d"], [[1, 0]], [[0, 2]], [1, 2])
        self.assertEqual(net_text(net), self.TEXT)
        self.assertEqual(net_text(net), self.TEXT)
        self.assertEqual(values(net), (["a", "b"], ["d"], [[1, 0]], [[0, 2]], [1, 2]))


if __name__ == "__main__":
    unittest.main()
