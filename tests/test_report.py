"""[11.3], [11.7], [11.8], and [0.2] for reports."""

import unittest

from beadhall.askwords import ask_text, read_ask
from beadhall.errors import BadAsk, BadPaper, BadText, HallError
from beadhall.examiner import shown
from beadhall.hall import answered
from beadhall.paperwords import paper_text, read_paper
from beadhall.reading import net_text, read_net
from beadhall.report import judged, report

from common import Draw, check_kinds, check_own, met_by_runs, net_of
from test_askwords import BAD_PARTS
from test_askwords import BAD_ROWS as BAD_ASKS
from test_paperwords import BAD_ROWS as BAD_PAPERS

TRADE = """\
# three coins for a hen
bowl hen 0
bowl coin 10
door buy 3 coin > 1 hen
"""
SPRING = "bowl a 0\nbowl b 2\ndoor fill - > 1 a"
POUR = "bowl a 200\nbowl b 0\ndoor pour 1 a > 1 b"
BAD_NET = "bowl hen 0\nbowl hen 1"

# Six rows: an answer that is shown by its paper, and one that is open.
SIX = ["ask cover 200 a", "answer yes", "paper run", "ask cover 100 b", "answer open", "paper none"]
BAD_ANSWERS = [
    "", " ", "Yes", "maybe", "none", "yes ", " yes", "yes no", "-1", "-0", "00", "01", "+1", "*", "1 1", "1 ", " 1",
    "1\t", "1.0", "1_0", "1" + "0" * 1000, "0" * 1000 + "1", "9" * 5000, "endles", "\tyes", "a"]


def lines(*rows):
    return "\n".join(rows)


class ReportTest(unittest.TestCase):
    def test_no_ask(self):
        for text in ("", "\n", "# nothing", "\n\n# nothing\n"):
            self.assertEqual(report(TRADE, text), "")

    def check_rows(self, net_words, ask_words, asks, answers):
        """Three rows for each ask, the first two as told, the third a paper that shows it."""
        net = read_net(net_words)
        rows = report(net_words, ask_words).split("\n")
        self.assertEqual(rows[0::3], ["ask " + ask for ask in asks])
        self.assertEqual(rows[1::3], ["answer " + answer for answer in answers])
        self.assertEqual(len(rows), 3 * len(asks))
        for ask, answer, row in zip(asks, answers, rows[2::3], strict=True):
            self.assertTrue(row.startswith("paper "))
            paper = read_paper(net, row[len("paper "):])
            if answer == "open":
                self.assertEqual(row, "paper none")
            else:
                told = int(answer) if answer.isdigit() else answer
                self.assertIs(shown(net, read_ask(net, ask), told, paper), True)

    def test_one_ask(self):
        for ask, answer in (
                ("stick", "yes"), ("most hen", "3"), ("most coin", "10"), ("ever buy", "yes"), ("cover 4 hen", "no"),
                ("cover 3 hen", "yes"), ("reach 3 hen", "no"), ("reach 3 hen + 1 coin", "yes"), ("cover -", "yes"),
                ("reach -", "no")):
            self.check_rows(TRADE, ask, [ask], [answer])
        self.check_rows(SPRING, "most a", ["most a"], ["endless"])
        self.check_rows(SPRING, "stick", ["stick"], ["no"])
        self.check_rows(POUR, "stick", ["stick"], ["open"])

    def test_several_asks(self):
        self.check_rows(
            TRADE, "# asks\nstick\n\nreach 1 coin + 3 hen\nstick\nmost hen\n",
            ["stick", "reach 3 hen + 1 coin", "stick", "most hen"], ["yes", "yes", "yes", "3"])
        self.check_rows(POUR, "cover 201 b\nmost a", ["cover 201 b", "most a"], ["no", "open"])

    def test_row_by_row(self):
        self.assertEqual(report("bowl a 4", "stick"), "ask stick\nanswer yes\npaper run")
        self.assertEqual(report(POUR, "stick\nmost b"), lines(
            "ask stick", "answer open", "paper none", "ask most b", "answer open", "paper none"))

    def test_it_is_what_the_hall_answers(self):
        draw = Draw(311)
        for _ in range(25):
            net = draw.moving_net(draw.number(1, 3), draw.number(1, 3), draw.number(1, 2))
            asks = [("stick",), ("most", 0), ("ever", 0), ("cover", draw.bag(len(net.bowls), 0, 4))]
            rows = []
            for ask in asks:
                answer, paper = answered(net, ask)
                rows += ["ask " + ask_text(net, ask), f"answer {answer}", "paper " + paper_text(net, paper)]
            self.assertEqual(report(net_text(net), lines(*[ask_text(net, ask) for ask in asks])), lines(*rows))

    def test_long_counts(self):
        figures = "9" * 200
        self.check_rows(SPRING, f"cover {figures} a", [f"cover {figures} a"], ["yes"])
        self.check_rows(TRADE, f"cover {figures} hen", [f"cover {figures} hen"], ["no"])

    def test_bad_texts(self):
        for net_words, ask_words, row in (
                (BAD_NET, "stick", 2), (BAD_NET, "stuck", 2), ("", "stuck", 0), ("", "", 0),
                ("door a - > -\nx", "", 2)):
            with self.assertRaises(BadText) as caught:
                report(net_words, ask_words)
            self.assertEqual(caught.exception.row, row)
        for ask_words, row in (("stuck", 1), ("stick\nmost a", 2), ("\n\nstick\ncover 0 hen\nstuck", 4)):
            with self.assertRaises(BadAsk) as caught:
                report(TRADE, ask_words)
            self.assertEqual(caught.exception.row, row)


class JudgedTest(unittest.TestCase):
    def refused(self, kind, net_words, report_words):
        with self.assertRaises(HallError, msg=report_words) as caught:
            judged(net_words, report_words)
        self.assertIs(type(caught.exception), kind, report_words)
        self.assertIs(type(caught.exception.row), int)
        return caught.exception.row

    def test_the_empty_text(self):
        self.assertEqual(judged(TRADE, ""), [])

    def test_shown_open_and_not_shown(self):
        self.assertEqual(judged(POUR, lines(*SIX)), ["shown", "open"])
        for answer, paper, told in (
                ("yes", "run 100 ( pour )", "shown"), ("yes", "run 99 ( pour )", "not shown"),
                ("yes", "run 201 ( pour )", "not shown"), ("no", "run 100 ( pour )", "not shown"),
                ("open", "run 100 ( pour )", "not shown"), ("open", "none", "open"), ("yes", "none", "not shown"),
                ("no", "none", "not shown"), ("endless", "run 100 ( pour )", "not shown"),
                ("100", "run 100 ( pour )", "not shown"), ("0", "none", "not shown"), ("endless", "none", "not shown"),
                ("yes", "branch", "not shown"), ("yes", "branch pour [ 7 ]", "not shown"),
                ("no", "sum 1 < 0 0 >", "not shown"), ("no", "kept none none", "not shown")):
            self.assertEqual(
                judged(POUR, lines("ask cover 100 b", "answer " + answer, "paper " + paper)), [told], (answer, paper))

    def test_answers_of_each_kind(self):
        for ask, answer, paper, told in (
                ("most a", "200", "most by fall < 1 1 >", "shown"),
                ("most a", "201", "most by fall < 1 1 >", "not shown"),
                ("most b", "200", "most 200 ( pour ) by fall < 1 1 >", "shown"),
                ("most b", "0", "most by fall < 1 1 >", "not shown"),
                ("most b", "9" * 1000, "most by fall < 1 1 >", "not shown"),
                ("stick", "yes", "run 200 ( pour )", "shown"), ("stick", "no", "run 200 ( pour )", "not shown"),
                ("ever pour", "yes", "run", "shown"), ("reach 200 b", "yes", "run 200 ( pour )", "shown"),
                ("reach 201 b", "no", "sum 0 < 1 1 >", "shown"), ("reach 1 b", "no", "wet a b", "not shown"),
                ("reach -", "no", "wet a b", "shown")):
            self.assertEqual(judged(POUR, lines("ask " + ask, "answer " + answer, "paper " + paper)), [told])
        self.assertEqual(judged(SPRING, "ask most a\nanswer endless\npaper branch fill [ 0 ]"), ["shown"])
        self.assertEqual(judged(SPRING, "ask most b\nanswer endless\npaper branch fill [ 0 ]"), ["not shown"])

    def test_an_ask_as_it_can_be_read(self):
        for part in ("1 a + 2 b", "2 b + 1 a"):
            self.assertEqual(judged(POUR, lines("ask cover " + part, "answer yes", "paper run 9 ( pour )")), ["shown"])

    def test_each_of_the_three_places(self):
        for number in range(6):
            kind = BadAsk if number % 3 == 0 else BadPaper
            right = ["ask ", "answer ", "paper "][number % 3]
            others = [head for head in ("ask ", "answer ", "paper ") if head != right]
            rows = [other + SIX[number][len(right):] for other in others]
            rows += ["", " ", "#", "# " + SIX[number], SIX[number] + " ", " " + SIX[number], "x" + SIX[number]]
            rows += [right.strip(), right, right + " " + SIX[number][len(right):], SIX[number][len(right):]]
            rows += [SIX[number].upper(), SIX[number].replace(" ", "\t", 1), right + "?"]
            for row in rows:
                text = lines(*SIX[:number], row, *SIX[number + 1:])
                self.assertEqual(self.refused(kind, POUR, text), number + 1, row)
                # It is the first one that counts, whatever comes behind it.
                text = lines(*SIX[:number], row, "?", "?", "?")
                self.assertEqual(self.refused(kind, POUR, text), number + 1, row)
            # A row is left out.
            if number != 5:
                self.assertEqual(self.refused(kind, POUR, lines(*SIX[:number], *SIX[number + 1:])), number + 1)

    def test_where_the_text_ends(self):
        for number in (1, 2, 4, 5):
            self.assertEqual(self.refused(BadPaper, POUR, lines(*SIX[:number])), number + 1)
            self.assertEqual(self.refused(BadPaper, POUR, lines(*SIX[:number]) + "\n"), number + 1)
        for number in (3, 6):
            self.assertEqual(len(judged(POUR, lines(*SIX[:number]))), number // 3)
            self.assertEqual(self.refused(BadAsk, POUR, lines(*SIX[:number]) + "\n"), number + 1)
        self.assertEqual(self.refused(BadAsk, POUR, "\n"), 1)
        self.assertEqual(self.refused(BadAsk, POUR, "\n" + lines(*SIX)), 1)

    def test_bad_asks_answers_and_papers(self):
        for ask in BAD_ASKS + ["cover " + part for part in BAD_PARTS]:
            if "\n" not in ask:
                for ahead in (0, 3):
                    text = lines(*SIX[:ahead], "ask " + ask, *SIX[1:3])
                    self.assertEqual(self.refused(BadAsk, POUR, text), ahead + 1)
        for answer in BAD_ANSWERS:
            for ahead in (0, 3):
                text = lines(*SIX[:ahead], "ask stick", "answer " + answer, "paper none")
                self.assertEqual(self.refused(BadPaper, POUR, text), ahead + 2)
        for paper in BAD_PAPERS:
            if "\n" not in paper:
                for ahead in (0, 3):
                    text = lines(*SIX[:ahead], "ask stick", "answer open", "paper " + paper)
                    net_words = "bowl a 200\nbowl bb 0\nbowl c 0\ndoor go - > -\ndoor come - > -"
                    self.assertEqual(self.refused(BadPaper, net_words, text), ahead + 3)

    def test_a_bad_text_of_the_net_first(self):
        for net_words, row in ((BAD_NET, 2), ("", 0), ("x", 1)):
            for report_words in ("", "?", lines(*SIX)):
                self.assertEqual(self.refused(BadText, net_words, report_words), row)


class WholeTest(unittest.TestCase):
    """Of a report as told each ask is shown or open; with answers or papers exchanged no more is shown than is so."""

    def nets(self):
        draw = Draw(312)
        for _ in range(20):
            yield draw.net(draw.number(1, 3), draw.number(0, 3), draw.number(1, 3))
            yield draw.moving_net(draw.number(1, 3), draw.number(1, 3), draw.number(1, 2))
            yield draw.keeping_net(draw.number(2, 4), draw.number(1, 4), draw.number(5, 120), draw.number(1, 2))

    def asks(self, draw, net):
        goals = [draw.bag(len(net.bowls), 0, 4), met_by_runs(net, 20)[-1], draw.sparse(len(net.bowls), 10 ** 9)]
        return [(kind, goal) for kind in ("cover", "reach") for goal in goals] + [("stick",)] + [
            ("most", bowl) for bowl in range(len(net.bowls))] + [("ever", door) for door in range(len(net.doors))]

    def test_reports_as_told(self):
        draw = Draw(313)
        seen = []
        for net in self.nets():
            asks = lines(*[ask_text(net, ask) for ask in self.asks(draw, net)])
            text = report(net_text(net), asks)
            answers = text.split("\n")[1::3]
            told = judged(net_text(net), text)
            self.assertEqual(told, ["open" if answer == "answer open" else "shown" for answer in answers])
            seen += told
        self.assertGreater(min(seen.count("open"), seen.count("shown")), 20)

    def test_answers_and_papers_exchanged(self):
        draw = Draw(314)
        seen = []
        for net in self.nets():
            asks = self.asks(draw, net)
            rows = report(net_text(net), lines(*[ask_text(net, ask) for ask in asks])).split("\n")
            right = rows[1::3]
            for shift in (1, 2):
                moved = right[shift:] + right[:shift]
                changed = [row for triple in zip(rows[0::3], moved, rows[2::3]) for row in triple]
                told = judged(net_text(net), lines(*changed))
                for ask, before, answer, paper, one in zip(asks, right, moved, rows[2::3], told, strict=True):
                    if answer == before:
                        self.assertEqual(one, "open" if answer == "answer open" else "shown")
                    elif answer == "answer open" and paper == "paper none":
                        self.assertEqual(one, "open")
                    else:
                        self.assertEqual(one, "not shown")
                    seen.append(one)
                papers = rows[2::3][shift:] + rows[2::3][:shift]
                changed = [row for triple in zip(rows[0::3], right, papers) for row in triple]
                for ask, answer, paper, one in zip(
                        asks, right, papers, judged(net_text(net), lines(*changed)), strict=True):
                    said = answer[len("answer "):]
                    paper = read_paper(net, paper[len("paper "):])
                    if said == "open":
                        self.assertEqual(one, "open" if paper is None else "not shown")
                    else:
                        said = int(said) if said.isdigit() else said
                        self.assertEqual(one, "shown" if shown(net, ask, said, paper) else "not shown")
                    seen.append(one)
        for one in ("shown", "open", "not shown"):
            self.assertGreater(seen.count(one), 50)


class OwnTest(unittest.TestCase):
    def test_what_is_told_is_the_askers_own(self):
        check_own(self, report, TRADE, "stick\nmost hen")
        check_own(self, judged, POUR, lines(*SIX))
        check_own(self, judged, POUR, "")

    def test_kinds(self):
        self.assertIs(type(report(TRADE, "stick")), str)
        self.assertIs(type(report(TRADE, "")), str)
        told = judged(POUR, lines(*SIX))
        self.assertIs(type(told), list)
        check_kinds(self, told)

    def test_arguments_have_their_names(self):
        self.assertEqual(report(net_words=TRADE, ask_words=""), "")
        self.assertEqual(judged(net_words=TRADE, report_words=""), [])


if __name__ == "__main__":
    unittest.main()
