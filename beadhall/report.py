"""Reports: asks with the hall's answers and papers, and reports judged, whoever wrote them."""

from beadhall.askwords import ask_of_row
from beadhall.askwords import ask_text
from beadhall.askwords import read_asks
from beadhall.errors import BadAsk
from beadhall.errors import BadPaper
from beadhall.examiner import shown
from beadhall.hall import answered
from beadhall.paperwords import MOST_FIGURES
from beadhall.paperwords import paper_of_row
from beadhall.paperwords import paper_text
from beadhall.reading import read_net
from beadhall.words import read_count

ANSWER_WORDS = ("yes", "no", "open", "endless")


def report(net_words, ask_words):
    net = read_net(net_words)
    rows = []
    for ask in read_asks(net, ask_words):
        found = answered(net, ask)
        rows.append("ask " + ask_text(net, ask))
        rows.append("answer " + str(found[0]))
        rows.append("paper " + paper_text(net, found[1]))
    return "\n".join(rows)


def judged(net_words, report_words):
    net = read_net(net_words)
    rows = [] if report_words == "" else report_words.split("\n")
    return [judgement(net, rows, start) for start in range(0, len(rows), 3)]


# Of the three rows from the start on, which are refused in their order.
def judgement(net, rows, start):
    ask = ask_from(net, rows, start)
    answer = answer_from(rows, start + 1)
    paper = paper_from(net, rows, start + 2)
    if answer == "open" and paper is None:
        return "open"
    return "shown" if shown(net, ask, answer, paper) else "not shown"


def ask_from(net, rows, place):
    words = words_behind(rows, place, "ask ")
    if words is None:
        raise BadAsk("no row of an ask", place + 1)
    return ask_of_row(net, words, place + 1)


def answer_from(rows, place):
    words = words_behind(rows, place, "answer ")
    answer = None if words is None else read_answer(words)
    if answer is None:
        raise BadPaper("no row of an answer", place + 1)
    return answer


def paper_from(net, rows, place):
    words = words_behind(rows, place, "paper ")
    if words is None:
        raise BadPaper("no row of a paper", place + 1)
    return paper_of_row(net, words, place + 1)


# What stands behind the head of the row, None where there is no such row.
def words_behind(rows, place, head):
    if place >= len(rows) or not rows[place].startswith(head):
        return None
    return rows[place][len(head):]


# None where it is no answer.
def read_answer(words):
    return words if words in ANSWER_WORDS else read_count(words, MOST_FIGURES)
