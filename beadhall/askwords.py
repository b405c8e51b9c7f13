"""Asks read from rows and texts, and written as rows."""

from beadhall.errors import BadAsk
from beadhall.nets import bowl_at
from beadhall.nets import door_at
from beadhall.words import is_idle
from beadhall.words import part_text
from beadhall.words import read_count
from beadhall.words import read_part

MOST_FIGURES = 200


def read_ask(net, row):
    return ask_of_row(net, row, 1)


def read_asks(net, text):
    asks = []
    for number, row in enumerate(text.split("\n"), start=1):
        if not is_idle(row):
            asks.append(ask_of_row(net, row, number))
    return asks


# The number is the row's own, for the refusal.
def ask_of_row(net, row, number):
    words = row.split(" ")
    ask = READERS[words[0]](net, words[0], words[1:]) if words[0] in READERS else None
    if ask is None:
        raise BadAsk(f"row {number} is no ask", number)
    return ask


# Those below tell None where the words behind the first one are not such as belong to it.
def read_beads_ask(net, kind, words):
    beads = read_part(net.bowls, words, read_ask_count)
    return None if beads is None else (kind, beads)


def read_ask_count(word):
    return read_count(word, MOST_FIGURES)


def read_bowl_ask(net, kind, words):
    return placed_ask(kind, bowl_at(net, words[0])) if len(words) == 1 else None


def read_door_ask(net, kind, words):
    return placed_ask(kind, door_at(net, words[0])) if len(words) == 1 else None


def placed_ask(kind, place):
    return None if place == -1 else (kind, place)


def read_bare_ask(net, kind, words):
    return (kind,) if words == [] else None


def ask_text(net, ask):
    return " ".join([ask[0]] + WRITERS[ask[0]](net, ask))


def beads_words(net, ask):
    return [part_text(net.bowls, ask[1])]


def bowl_words(net, ask):
    return [net.bowls[ask[1]]]


def door_words(net, ask):
    return [net.doors[ask[1]]]


def no_words(net, ask):
    return []


READERS = {
    "cover": read_beads_ask,
    "reach": read_beads_ask,
    "most": read_bowl_ask,
    "stick": read_bare_ask,
    "ever": read_door_ask,
}

WRITERS = {
    "cover": beads_words,
    "reach": beads_words,
    "most": bowl_words,
    "stick": no_words,
    "ever": door_words,
}
