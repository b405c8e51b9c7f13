"""[11.4], what [11.1] and [11.5] say of papers, and [0.2] and [0.4] for papers that are written and read."""

import unittest

from beadhall.errors import BadPaper, HallError
from beadhall.nets import Net
from beadhall.papers import well_made
from beadhall.paperwords import paper_text, read_paper

from common import Draw, check_kinds, check_own, sets_of

NET = Net(["a", "bb", "c"], ["go", "come"], [[0] * 3] * 2, [[0] * 3] * 2, [0, 0, 0])
BARE = Net(["a"], [], [], [], [0])
# Names that are words of papers, too.
WORDS = ["most", "trap", "none", "by", "weight", "run"]
WORDY = Net(WORDS, WORDS + ["fence", "kept"], [[0] * 6] * 8, [[0] * 6] * 8, [0] * 6)
LONG = "9" * 1000
GREAT = int(LONG)

WRITTEN = [
    (None, "none"),
    (("run", []), "run"),
    (("run", [(3, [0, 1]), (1, [0])]), "run 3 ( go come ) 1 ( go )"),
    (("run", [(0, []), (7, [])]), "run 0 ( ) 7 ( )"),
    (("run", [(GREAT, [1])]), f"run {LONG} ( come )"),
    (("branch", []), "branch"),
    (("branch", [(0, []), (1, [])]), "branch go come"),
    (("branch", [(0, [0]), (1, []), (0, [2, 0, 99, 1])]), "branch go [ 0 ] come go [ 2 0 99 1 ]"),
    (("branch", [(1, [GREAT])]), f"branch come [ {LONG} ]"),
    (("fence", []), "fence"),
    (("fence", [[0, 1, 2]]), "fence < 0 1 2 >"),
    (("fence", [[None, 1, None], [None, None, None]]), "fence < * 1 * > < * * * >"),
    (("fence", [[GREAT, 0, 0]]), f"fence < {LONG} 0 0 >"),
    (("room", []), "room"),
    (("room", [[0, 1, 2], [10, 0, 0], [0, 1, 2]]), "room < 0 1 2 > < 10 0 0 > < 0 1 2 >"),
    (("wants", []), "wants"),
    (("wants", [[0, 0, GREAT], [1, 0, 0]]), f"wants < 0 0 {LONG} > < 1 0 0 >"),
    (("fall", [0, 0, 0]), "fall < 0 0 0 >"),
    (("fall", [-1, 20, -GREAT]), f"fall < -1 20 -{LONG} >"),
    (("sum", [1, -2, 3], 0), "sum 0 < 1 -2 3 >"),
    (("sum", [0, 0, 0], 1), "sum 1 < 0 0 0 >"),
    (("sum", [1, 2, 3], GREAT), f"sum {LONG} < 1 2 3 >"),
    (("dry", []), "dry"),
    (("dry", [1]), "dry bb"),
    (("dry", [0, 1, 2]), "dry a bb c"),
    (("wet", []), "wet"),
    (("wet", [0, 2]), "wet a c"),
    (("kept", []), "kept"),
    (("kept", [None]), "kept none"),
    (("kept", [("trap", [])]), "kept trap ( )"),
    (("kept", [None, ("trap", [0, 2]), ("weight", [0, -1, GREAT]), None, None]),
     f"kept none trap ( a c ) weight < 0 -1 {LONG} > none none"),
    (("most", [], ("fence", [])), "most by fence"),
    (("most", [(3, [1, 1])], ("fence", [[None, 1, 2]])), "most 3 ( come come ) by fence < * 1 2 >"),
    (("most", [(0, []), (1, [0])], ("room", [[0, 0, 0]])), "most 0 ( ) 1 ( go ) by room < 0 0 0 >"),
    (("most", [], ("fall", [1, -1, 0])), "most by fall < 1 -1 0 >")]

WORDY_WRITTEN = [
    (("run", [(1, [0, 3, 5, 3])]), "run 1 ( most by run by )"),
    (("branch", [(3, []), (5, [0]), (2, [])]), "branch by run [ 0 ] none"),
    (("dry", [0, 1, 2, 3, 4, 5]), "dry most trap none by weight run"),
    (("wet", [2]), "wet none"),
    (("kept", [("trap", [1, 2, 4]), None, ("trap", [1])]), "kept trap ( trap none weight ) none trap ( trap )"),
    (("most", [(1, [3]), (2, [3, 6])], ("room", [])), "most 1 ( by ) 2 ( by fence ) by room"),
    (("most", [(1, [7])], ("fall", [0] * 6)), "most 1 ( kept ) by fall < 0 0 0 0 0 0 >")]

FORMS = {"run", "branch", "fence", "room", "wants", "fall", "sum", "dry", "wet", "kept", "most"}

BAD_COUNTS = ["", "00", "01", "-1", "-0", "+1", "*", "a", "1a", "1.0", "1_0", "\t1", "1" + "0" * 1000, "0" * 1000 + "1",
              "9" * 5000, "x", "<", ">"]
BAD_NUMBERS = ["", "00", "01", "-0", "-00", "-01", "+1", "--1", "-", "*", "a", "1-", "- 1", "1" + "0" * 1000,
               "-1" + "0" * 1000]
BAD_ROWS = [
    "", " ", "#", "none none", "none ", " none", "None", "nothing", "yes", "open", "runs", "Run", "run  ", "run ",
    " run", "run\t", "\trun", "run\n", "paper run", "trap ( a )", "weight < 0 0 0 >",
    "run 1", "run ( go )", "run 1 go", "run 1 (", "run 1 ( go", "run 1 go )", "run 1 ()", "run 1 (go)", "run 1 ( go ))",
    "run 1 ( go ) )", "run 1  ( go )", "run 1 (  )", "run 1 ( go  come )", "run 1 [ go ]", "run 1 ( a )", "run 1 ( 0 )",
    "run 1 ( go , come )", "run 1 1 ( go )", "run by", "run 1 ( go ) by fence", "run 1 ( go ) come", "run 1 ( * )",
    "branch a", "branch 0", "branch go [ ]", "branch go [", "branch go [ 0", "branch [ 0 ]", "branch go 0",
    "branch go [ 0 ] [ 0 ]", "branch go ( 0 )", "branch go [0]", "branch go ]", "branch go [ go ]", "branch  go",
    "branch go ", "branch ( go )", "branch go [ 0  1 ]",
    "fence < 0 0 >", "fence < 0 0 0 0 >", "fence < >", "fence < 0 0 0", "fence 0 0 0 >", "fence 0 0 0", "fence <0 0 0>",
    "fence < 0 0 0 > >", "fence < < 0 0 0 > >", "fence ( 0 0 0 )", "fence < 0  0 0 >", "fence < 0 0 0 >  < 0 0 0 >",
    "fence < 0 0 0 > < 0 0 >", "fence < 0 0 ** >", "fence < 0 0 None >", "fence *", "fence < 0 , 0 , 0 >", "fence a",
    "room < 0 0 * >", "wants < * 0 0 >", "most by room < 0 0 * >",
    "fall", "fall < 0 0 0 > < 0 0 0 >", "fall < 0 0 >", "fall < 0 0 0 0 >", "fall < 0 0 * >", "fall 0 0 0", "fall < >",
    "fall < 0 0 0 > ", "fall  < 0 0 0 >", "fall 0 < 0 0 0 >",
    "sum", "sum 0", "sum < 0 0 0 >", "sum < 0 0 0 > 0", "sum 0 < 0 0 >", "sum 0 < 0 0 0 0 >", "sum 0 < 0 0 * >",
    "sum 0 0 < 0 0 0 >", "sum 0 < 0 0 0 > < 0 0 0 >", "sum 0 0 0 0", "sum 0  < 0 0 0 >",
    "dry d", "dry go", "dry 0", "dry a a", "dry bb a", "dry a c bb", "dry  a", "dry a ", "dry ( a )", "dry -",
    "wet d", "wet come", "wet 2", "wet c c", "wet c a", "wet a bb a", "wet  a", "wet a ", "wet ( )",
    "kept trap", "kept trap (", "kept trap ( a", "kept trap a", "kept trap ( a ) )", "kept trap ( bb a )",
    "kept trap ( a a )", "kept trap ( d )", "kept trap ( go )", "kept trap ( 0 )", "kept ( a )", "kept weight",
    "kept weight < 0 0 >", "kept weight < 0 0 0 0 >", "kept weight < 0 0 * >", "kept weight 0 0 0", "kept < 0 0 0 >",
    "kept None", "kept none  none", "kept none trap", "kept by", "kept run", "kept kept", "kept trap ( )  none",
    "most", "most by", "most fence", "most by none", "most by run", "most by branch", "most by wants", "most by dry",
    "most by wet", "most by kept", "most by sum 0 < 0 0 0 >", "most by most by fence", "most by fence by fence",
    "most by fall", "most 1 by fence", "most ( go ) by fence", "most 1 ( go ) fence", "most 1 ( d ) by fence",
    "most 1 ( go )", "most by fence < 0 0 >", "most by room < 0 0 -1 >", "most by fall < 0 0 >", "most  by fence",
    "most by  fence", "most by fence ", "most run by fence", "most none by fence", "most by fence none"]
BAD_ROWS += [
    row.replace("?", count) for count in BAD_COUNTS for row in (
        "run ? ( go )", "run 1 ( go ) ? ( )", "branch go [ ? ]", "branch go [ 0 ? ]", "room < ? 0 0 >",
        "room < 0 0 ? >", "wants < 0 ? 0 >", "sum ? < 0 0 0 >", "most ? ( go ) by fence", "most by room < 0 ? 0 >")]
BAD_ROWS += [
    row.replace("?", count) for count in BAD_COUNTS if count != "*" for row in (
        "fence < ? 0 0 >", "fence < * * ? >", "most by fence < 0 ? * >")]
BAD_ROWS += [
    row.replace("?", number) for number in BAD_NUMBERS for row in (
        "fall < ? 0 0 >", "fall < 0 0 ? >", "sum 2 < 0 ? 0 >", "kept weight < ? 0 0 >", "most by fall < 0 ? 0 >")]


def row_of(test, call, *handed):
    """The row that a refusal with BadPaper tells."""
    with test.assertRaises(BadPaper, msg=handed[1:]) as caught:
        call(*handed)
    test.assertIsInstance(caught.exception, HallError)
    test.assertIs(type(caught.exception.row), int)
    return caught.exception.row


def drawn_paper(draw):
    """A rightly made paper of one of the forms, with no part and no point below nought."""
    def many(make, most=3):
        return [make() for _ in range(draw.number(0, most))]

    def count():
        return draw.number(0, 10 ** draw.number(0, 9))

    def blocks():
        return many(lambda: (count(), many(lambda: draw.number(0, 1))))

    def beads():
        return [count() for _ in range(3)]

    def bounds():
        marks = many(lambda: [None if draw.number(0, 2) == 0 else count() for _ in range(3)])
        return [("fence", marks), ("room", many(beads)), ("fall", draw.bag(3, -99, 99))]

    chosen = sets_of([0, 1, 2])[draw.number(0, 7)]
    reasons = many(lambda: [None, ("trap", list(chosen)), ("weight", draw.bag(3, -9, 9))][draw.number(0, 2)])
    branch = many(lambda: (draw.number(0, 1), many(count)))
    return [
        ("run", blocks()), ("branch", branch), ("wants", many(beads)), ("sum", draw.bag(3, -99, 99), count()),
        ("dry", chosen), ("wet", chosen), ("kept", reasons)] + bounds() + [
        ("most", blocks(), bound) for bound in bounds()]


class WrittenTest(unittest.TestCase):
    def test_written_and_read_back(self):
        for net, pairs in ((NET, WRITTEN), (WORDY, WORDY_WRITTEN)):
            for paper, row in pairs:
                self.assertEqual(paper_text(net, paper), row)
                self.assertEqual(read_paper(net, row), paper)

    def test_each_form_is_there(self):
        self.assertEqual({paper[0] for paper, row in WRITTEN if paper}, FORMS)

    def test_one_bowl_and_no_door(self):
        for paper, row in (
                (("run", []), "run"), (("run", [(2, [])]), "run 2 ( )"), (("branch", []), "branch"),
                (("fence", [[None]]), "fence < * >"), (("kept", [None]), "kept none"), (("fall", [-1]), "fall < -1 >")):
            self.assertEqual(paper_text(BARE, paper), row)
            self.assertEqual(read_paper(BARE, row), paper)

    def test_drawn_papers(self):
        draw = Draw(301)
        for _ in range(60):
            for paper in drawn_paper(draw):
                self.assertTrue(well_made(NET, paper))
                self.assertEqual(read_paper(NET, paper_text(NET, paper)), paper)


class RefusedTest(unittest.TestCase):
    def test_rows_that_are_no_papers(self):
        for row in BAD_ROWS:
            self.assertEqual(row_of(self, read_paper, NET, row), 1, row)

    def test_one_word_too_few_or_too_many(self):
        for paper, row in WRITTEN:
            self.assertEqual(row_of(self, read_paper, NET, " " + row), 1)
            self.assertEqual(row_of(self, read_paper, NET, row + " "), 1)
            self.assertEqual(row_of(self, read_paper, NET, row + " ?"), 1)
            self.assertEqual(row_of(self, read_paper, NET, row + "\n"), 1)
            words = row.split(" ")
            for place in range(1, len(words)):
                self.assertEqual(
                    row_of(self, read_paper, NET, " ".join(words[:place]) + "  " + " ".join(words[place:])), 1)

    def test_what_is_read_with_a_word_left_out_is_another_paper_or_none(self):
        refused = 0
        for paper, row in WRITTEN + [(paper, paper_text(NET, paper)) for paper in drawn_paper(Draw(302))]:
            words = row.split(" ")
            for place in range(len(words)):
                fewer = " ".join(words[:place] + words[place + 1:])
                try:
                    told = read_paper(NET, fewer)
                except BadPaper:
                    refused += 1
                    continue
                self.assertEqual(paper_text(NET, told), fewer)
                self.assertTrue(told is None or well_made(NET, told))
        self.assertGreater(refused, 80)

    def test_names_that_the_net_has_not(self):
        for row in ("run 1 ( a )", "branch go", "dry b"):
            self.assertEqual(row_of(self, read_paper, BARE, row), 1)


class OwnTest(unittest.TestCase):
    def test_what_is_told_is_the_askers_own(self):
        for paper, row in WRITTEN:
            check_own(self, paper_text, NET, paper)
            check_own(self, read_paper, NET, row)

    def test_kinds(self):
        for paper, row in WRITTEN:
            self.assertIs(type(paper_text(NET, paper)), str)
            told = read_paper(NET, row)
            check_kinds(self, told)
            self.assertIs(type(told), type(paper))
        self.assertIs(read_paper(NET, "none"), None)
        self.assertEqual([type(block) for block in read_paper(NET, "run 1 ( go )")[1]], [tuple])
        self.assertEqual([type(pair) for pair in read_paper(NET, "branch go")[1]], [tuple])
        self.assertEqual([type(reason) for reason in read_paper(NET, "kept trap ( )")[1]], [tuple])

    def test_arguments_have_their_names(self):
        self.assertEqual(read_paper(net=NET, row="run"), ("run", []))
        self.assertEqual(paper_text(net=NET, paper=("run", [])), "run")


if __name__ == "__main__":
    unittest.main()
