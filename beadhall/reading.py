"""Nets read from texts, row by row, and written as texts."""

from beadhall.errors import BadText
from beadhall.nets import MOST_BEADS
from beadhall.nets import MOST_BOWLS
from beadhall.nets import MOST_DOORS
from beadhall.nets import Net
from beadhall.nets import is_name
from beadhall.words import is_idle
from beadhall.words import part_text
from beadhall.words import read_count
from beadhall.words import read_part

MOST_FIGURES = 10


# What the rows so far have told. A door's bags are as wide as there were bowls at its row.
class Draft:
    def __init__(self):
        self.bowls = []
        self.doors = []
        self.takes = []
        self.gives = []
        self.first = []


def read_net(text):
    draft = Draft()
    for number, row in enumerate(text.split("\n"), start=1):
        if not is_idle(row) and not take_row(draft, row.split(" ")):
            raise BadText(f"row {number} can't be taken", number)
    if draft.bowls == []:
        raise BadText("no row tells a bowl", 0)
    width = len(draft.bowls)
    return Net(draft.bowls, draft.doors, widened(draft.takes, width), widened(draft.gives, width), draft.first)


def widened(bags, width):
    return [bag + [0] * (width - len(bag)) for bag in bags]


# The three that take a row say whether it could be taken; the draft is left as it was where not.
def take_row(draft, words):
    if words[0] == "bowl":
        return take_bowl(draft, words[1:])
    if words[0] == "door":
        return take_door(draft, words[1:])
    return False


def take_bowl(draft, words):
    if len(words) != 2 or not may_be_added(words[0], draft.bowls, MOST_BOWLS):
        return False
    count = read_beads(words[1])
    if count is None:
        return False
    draft.bowls.append(words[0])
    draft.first.append(count)
    return True


def take_door(draft, words):
    if ">" not in words or not may_be_added(words[0], draft.doors, MOST_DOORS):
        return False
    middle = words.index(">")
    takes = read_part(draft.bowls, words[1:middle], read_beads)
    gives = read_part(draft.bowls, words[middle + 1:], read_beads)
    if takes is None or gives is None:
        return False
    draft.doors.append(words[0])
    draft.takes.append(takes)
    draft.gives.append(gives)
    return True


def may_be_added(word, names, most):
    return is_name(word) and word not in names and len(names) < most


# None where the word is no count, or one above the most that a net has.
def read_beads(word):
    count = read_count(word, MOST_FIGURES)
    if count is None or count > MOST_BEADS:
        return None
    return count


def net_text(net):
    rows = [f"bowl {name} {count}" for name, count in zip(net.bowls, net.first)]
    for door, name in enumerate(net.doors):
        takes = part_text(net.bowls, net.takes[door])
        gives = part_text(net.bowls, net.gives[door])
        rows.append(f"door {name} {takes} > {gives}")
    return "\n".join(rows)
