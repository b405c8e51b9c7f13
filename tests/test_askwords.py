"""[11.1], [11.2], [11.6], what [11.5] says of asks, and [0.2] and [0.4] for them."""

import itertools
import unittest

from beadhall.askwords import ask_text, read_ask, read_asks
from beadhall.errors import BadAsk, HallError
from beadhall.nets import Net

from common import Draw, check_kinds, check_own, net_of

NET = Net(["a", "bb", "c"], ["go", "come"], [[0] * 3] * 2, [[0] * 3] * 2, [0, 0, 0])
# Names that are words of asks and papers, too; a bowl and a door may be called alike.
WORDS = ["most", "stick", "ever", "cover", "reach", "none"]
WORDY = Net(
    WORDS, ["by", "run", "trap", "most", "none", "stick"], [[0] * 6] * 6, [[0] * 6] * 6, [0] * 6)
BARE = net_of([4], [])


def row_of(test, call, *handed):
    """The row that a refusal with BadAsk tells."""
    with test.assertRaises(BadAsk) as caught:
        call(*handed)
    test.assertIsInstance(caught.exception, HallError)
    test.assertIs(type(caught.exception.row), int)
    return caught.exception.row


class WrittenTest(unittest.TestCase):
    def check(self, net, ask, row):
        self.assertEqual(ask_text(net, ask), row)
        self.assertEqual(read_ask(net, row), ask)

    def test_each_kind(self):
        self.check(NET, ("cover", [1, 0, 0]), "cover 1 a")
        self.check(NET, ("cover", [1, 20, 300]), "cover 1 a + 20 bb + 300 c")
        self.check(NET, ("reach", [0, 7, 0]), "reach 7 bb")
        self.check(NET, ("reach", [5, 0, 9]), "reach 5 a + 9 c")
        self.check(NET, ("most", 0), "most a")
        self.check(NET, ("most", 1), "most bb")
        self.check(NET, ("stick",), "stick")
        self.check(NET, ("ever", 0), "ever go")
        self.check(NET, ("ever", 1), "ever come")

    def test_no_beads(self):
        self.check(NET, ("cover", [0, 0, 0]), "cover -")
        self.check(NET, ("reach", [0, 0, 0]), "reach -")

    def test_names_that_are_words(self):
        for place, name in enumerate(WORDS):
            self.check(WORDY, ("most", place), "most " + name)
            bag = [0] * 6
            bag[place] = 3
            self.check(WORDY, ("cover", bag), "cover 3 " + name)
        self.check(WORDY, ("ever", 3), "ever most")
        self.check(WORDY, ("ever", 5), "ever stick")
        self.check(WORDY, ("ever", 0), "ever by")
        self.check(WORDY, ("stick",), "stick")

    def test_counts_of_two_hundred_figures(self):
        for figures in ("9", "1" + "0" * 199, "9" * 200):
            self.check(NET, ("cover", [0, int(figures), 0]), f"cover {figures} bb")
            self.check(NET, ("reach", [int(figures), 0, int(figures)]), f"reach {figures} a + {figures} c")

    def test_drawn_beads(self):
        draw = Draw(291)
        for _ in range(60):
            width = draw.number(1, 6)
            net = net_of([0] * width, [])
            beads = draw.sparse(width, 10 ** draw.number(1, 9))
            for kind in ("cover", "reach"):
                self.assertEqual(read_ask(net, ask_text(net, (kind, beads))), (kind, beads))

    def test_bowls_in_any_order(self):
        pieces = ["1 a", "20 bb", "300 c"]
        for order in itertools.permutations(pieces):
            self.assertEqual(read_ask(NET, "cover " + " + ".join(order)), ("cover", [1, 20, 300]))
            self.assertEqual(read_ask(NET, "reach " + " + ".join(order)), ("reach", [1, 20, 300]))
        self.assertEqual(ask_text(NET, read_ask(NET, "reach 9 c + 5 a")), "reach 5 a + 9 c")


BAD_ROWS = [
    "", " ", "#", "# stick", "-", "cover", "reach", "most", "ever", "Stick", "stuck", "sticks", "stick -", "stick a",
    "stick stick", " stick", "stick ", "  stick", "stick  ", "\tstick", "stick\t", "stick\n", "\nstick",
    "yes", "none", "open", "ask stick", "a", "1 a", "cover-", "cover\t-",
    "most go", "most d", "most 0", "most a b", "most a a", "most a + c", "most 1 a", "most  a", " most a", "most a ",
    "most A", "most -", "most a,", "most\ta",
    "ever a", "ever d", "ever 0", "ever go come", "ever  go", " ever go", "ever go ", "ever -", "ever 1 go"]
BAD_PARTS = [
    "", " ", "a", "1", "1a", "1 d", "1 go", "0 a", "00 a", "01 a", "-1 a", "+1 a", "1 A", "1  a", " 1 a", "1 a ",
    "1 a +", "+ 1 a", "1 a + ", "1 a 1 bb", "1 a + + 1 bb", "1 a  + 1 bb", "1 a +  1 bb", "1 a+1 bb", "1 a, 1 bb",
    "1 a - 1 bb", "1 a + -", "- + 1 a", "- -", "-  ", " -", "- ", "+", "1 a + 2 a", "1 a + 1 bb + 1 a", "1 a + 0 bb",
    "1 a + 1 d", "1 a + bb", "1 a + 1", "a 1", "1 a > 1 bb", "*", "* a", "< 1 0 0 >", "1\ta", "1 a\t", "1.0 a",
    "1_0 a", "1e3 a", "0x1 a", "1" + "0" * 200 + " a", "9" * 201 + " a", "0" * 200 + "1 a", "9" * 5000 + " a",
    "1 a + " + "9" * 201 + " c", "1 a\n", "1 a + 1 bb + 1 c + 1 a"]


class RefusedTest(unittest.TestCase):
    def test_rows_that_are_no_asks(self):
        for row in BAD_ROWS + [kind + " " + part for kind in ("cover", "reach") for part in BAD_PARTS]:
            self.assertEqual(row_of(self, read_ask, NET, row), 1, row)

    def test_no_door(self):
        self.assertEqual(row_of(self, read_ask, BARE, "ever a"), 1)
        self.assertEqual(read_ask(BARE, "most a"), ("most", 0))


class TextTest(unittest.TestCase):
    def test_texts(self):
        for text, asks in (
                ("", []), ("\n", []), ("\n\n\n", []), ("# nothing", []), ("#", []), ("#stick\n\n# stick", []),
                ("stick", [("stick",)]), ("stick\n", [("stick",)]), ("\nstick", [("stick",)]),
                ("stick\nstick", [("stick",), ("stick",)]),
                ("# asks\ncover -\n\nmost bb\n#\never go\n", [("cover", [0, 0, 0]), ("most", 1), ("ever", 0)])):
            self.assertEqual(read_asks(NET, text), asks)

    def test_the_first_row_that_is_no_ask(self):
        for text, row in (
                ("stuck", 1), ("stuck\nstick", 1), ("stick\nstuck", 2), ("stick\nstuck\nstick", 2),
                ("stick\n\n# stuck\nstuck", 4), ("stick\nstuck\nstuck", 2), (" ", 1), ("\n ", 2), ("\n\n #", 3),
                ("stick\n \nstick", 2), ("stick\nmost a\ncover 1 a\nreach 0 a", 4), ("#\n#\nmost d\n#", 3),
                ("stick\tstick", 1), ("stick\n\t", 2)):
            self.assertEqual(row_of(self, read_asks, NET, text), row, text)

    def test_each_row_that_is_no_ask(self):
        for bad in BAD_ROWS + ["reach " + part for part in BAD_PARTS]:
            if bad == "" or bad.startswith("#") or "\n" in bad:
                continue
            for ahead, behind in ((0, 0), (0, 2), (1, 1), (3, 0)):
                text = "\n".join(["stick"] * ahead + [bad] + ["most a"] * behind)
                self.assertEqual(row_of(self, read_asks, NET, text), ahead + 1)


class OwnTest(unittest.TestCase):
    def test_what_is_told_is_the_askers_own(self):
        for ask in (("cover", [1, 0, 2]), ("reach", [0, 0, 0]), ("most", 1), ("stick",), ("ever", 0)):
            check_own(self, ask_text, NET, ask)
            check_own(self, read_ask, NET, ask_text(NET, ask))
        check_own(self, read_asks, NET, "cover 1 a\ncover 1 a\nreach -\nreach -")

    def test_kinds(self):
        asks = read_asks(NET, "cover 1 a\nreach -\nmost bb\nstick\never come")
        self.assertIs(type(asks), list)
        check_kinds(self, asks)
        for ask in asks:
            self.assertIs(type(ask), tuple)
            self.assertIs(type(ask_text(NET, ask)), str)
        self.assertEqual([type(ask[1]) for ask in asks if len(ask) > 1], [list, list, int, int])

    def test_arguments_have_their_names(self):
        self.assertEqual(read_ask(net=NET, row="stick"), ("stick",))
        self.assertEqual(ask_text(net=NET, ask=("stick",)), "stick")
        self.assertEqual(read_asks(net=NET, text="stick"), [("stick",)])


if __name__ == "__main__":
    unittest.main()
