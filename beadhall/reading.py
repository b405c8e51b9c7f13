"""Nets read from texts, row by row, and written as texts."""

from beadhall.errors import BadText
from beadhall.nets import MOST_BEADS
from beadhall.nets import MOST_BOWLS
from beadhall.nets import MOST_DOORS
from beadhall.nets import Net
from beadhall.nets import is_name
from beadhall.nets import place_of

MOST_FIGURES = 10


# What the rows so far have told. A door's bags are as wide as there were bowls at its row.
class Draft:
    def __init__(self):
        self.bowls = []
        self.doors = []
        self.takes = []
        self.gives = []
        self.first = []


def read_net(text):
    draft = Draft()
    for number, row in enumerate(text.split("\n"), start=1):
        if not is_idle(row) and not take_row(draft, row.split(" ")):
            raise BadText(f"row {number} can't be taken", number)
    if draft.bowls == []:
        raise BadText("no row tells a bowl", 0)
    width = len(draft.bowls)
    return Net(draft.bowls, draft.doors, widened(draft.takes, width), widened(draft.gives, width), draft.first)


def is_idle(row):
    return row == "" or row.startswith("#")


def widened(bags, width):
    return [bag + [0] * (width - len(bag)) for bag in bags]


# The three that take a row say whether it could be taken; the draft is left as it was where not.
def take_row(draft, words):
    if words[0] == "bowl":
        return take_bowl(draft, words[1:])
    if words[0] == "door":
        return take_door(draft, words[1:])
    return False


def take_bowl(draft, words):
    if len(words) != 2 or not may_be_added(words[0], draft.bowls, MOST_BOWLS):
        return False
    count = read_count(words[1])
    if count is None:
        return False
    draft.bowls.append(words[0])
    draft.first.append(count)
    return True


def take_door(draft, words):
    if ">" not in words or not may_be_added(words[0], draft.doors, MOST_DOORS):
        return False
    middle = words.index(">")
    takes = read_part(draft.bowls, words[1:middle])
    gives = read_part(draft.bowls, words[middle + 1:])
    if takes is None or gives is None:
        return False
    draft.doors.append(words[0])
    draft.takes.append(takes)
    draft.gives.append(gives)
    return True


def may_be_added(word, names, most):
    return is_name(word) and word not in names and len(names) < most


# None where the word is no count. The figures are counted ahead of `int`, which
# would refuse a word of some thousand figures in its own way.
def read_count(word):
    if not 1 <= len(word) <= MOST_FIGURES or not all(["0" <= sign <= "9" for sign in word]):
        return None
    if word.startswith("0") and word != "0":
        return None
    count = int(word)
    if count > MOST_BEADS:
        return None
    return count


# None where the words are no part.
def read_part(bowls, words):
    bag = [0] * len(bowls)
    if words == ["-"]:
        return bag
    # A `+` behind the last piece makes every piece three words long.
    pieces = words + ["+"]
    if len(pieces) % 3 != 0:
        return None
    for start in range(0, len(pieces), 3):
        if not take_piece(bag, bowls, pieces[start:start + 3]):
            return None
    return bag


def take_piece(bag, bowls, words):
    count = read_count(words[0])
    place = place_of(bowls, words[1])
    if count is None or count == 0 or place == -1 or bag[place] > 0 or words[2] != "+":
        return False
    bag[place] = count
    return True


def net_text(net):
    rows = [f"bowl {name} {count}" for name, count in zip(net.bowls, net.first)]
    for door, name in enumerate(net.doors):
        takes = part_text(net.bowls, net.takes[door])
        gives = part_text(net.bowls, net.gives[door])
        rows.append(f"door {name} {takes} > {gives}")
    return "\n".join(rows)


def part_text(bowls, bag):
    pieces = [f"{count} {name}" for name, count in zip(bowls, bag) if count > 0]
    if pieces == []:
        return "-"
    return " + ".join(pieces)
