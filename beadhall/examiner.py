"""The examiner: which paper shows which answer to which ask."""

from beadhall.bags import beneath
from beadhall.bags import weighed
from beadhall.blocks import block_after
from beadhall.branches import branch_marks
from beadhall.dues import ceiling_of
from beadhall.errors import NoGo
from beadhall.marks import is_no_more
from beadhall.marks import under
from beadhall.papers import dry_holds
from beadhall.papers import fall_holds
from beadhall.papers import fence_holds
from beadhall.papers import reasons_hold
from beadhall.papers import room_holds
from beadhall.papers import sum_holds
from beadhall.papers import wants_hold
from beadhall.papers import well_made
from beadhall.papers import wet_holds
from beadhall.stoppers import stuck_at
from beadhall.sums import tells_apart
from beadhall.traps import lies_in


def shown(net, ask, answer, paper):
    if paper is None or not well_made(net, paper):
        return False
    return EXAMINERS[ask[0]](net, ask, answer, paper)


def cover_shown(net, ask, answer, paper):
    if answer == "yes":
        return covers(net, ask[1], paper)
    return answer == "no" and bars(net, ask[1], paper)


# The door may go just where the beads that it takes are covered.
def ever_shown(net, ask, answer, paper):
    return cover_shown(net, ("cover", net.takes[ask[1]]), answer, paper)


def reach_shown(net, ask, answer, paper):
    if answer == "yes":
        return paper[0] == "run" and beads_behind(net, paper[1]) == ask[1]
    return answer == "no" and (bars(net, ask[1], paper) or keeps_off(net, ask[1], paper))


def most_shown(net, ask, answer, paper):
    bowl = ask[1]
    if paper[0] == "most":
        beads = beads_behind(net, paper[1])
        return beads is not None and beads[bowl] == answer and bounds(net, bowl, answer, paper[2])
    if paper[0] == "branch":
        mark = last_mark(net, paper[1])
        return answer == "endless" and mark is not None and mark[bowl] is None
    return False


def stick_shown(net, ask, answer, paper):
    if answer == "yes":
        beads = beads_behind(net, paper[1]) if paper[0] == "run" else None
        return beads is not None and stuck_at(net, beads)
    return answer == "no" and keeps_going(net, paper)


# None where the blocks don't go.
def beads_behind(net, blocks):
    try:
        return block_after(net, net.first, blocks)
    except NoGo:
        return None


# None where the branch is refused.
def last_mark(net, branch):
    try:
        return branch_marks(net, branch)[-1]
    except NoGo:
        return None


# Whether it shows that the goal can be covered.
def covers(net, goal, paper):
    mark = None
    if paper[0] == "run":
        mark = beads_behind(net, paper[1])
    if paper[0] == "branch":
        mark = last_mark(net, paper[1])
    return mark is not None and under(goal, mark)


# Whether it shows that the goal can't be covered.
def bars(net, goal, paper):
    return paper[0] in BARS and BARS[paper[0]](net, goal, paper)


def fence_bars(net, goal, paper):
    return fence_holds(net, paper[1]) and not any([under(goal, mark) for mark in paper[1]])


def room_bars(net, goal, paper):
    return room_holds(net, paper[1]) and not any([beneath(goal, beads) for beads in paper[1]])


def wants_bar(net, goal, paper):
    return wants_hold(net, goal, paper[1])


def fall_bars(net, goal, paper):
    return min(paper[1]) >= 0 and fall_keeps_off(net, goal, paper)


def dry_bars(net, goal, paper):
    return dry_holds(net, paper[1]) and lies_in(goal, paper[1])


# Whether it shows that there are never just these beads, though they may be covered.
def keeps_off(net, beads, paper):
    return paper[0] in KEEPERS and KEEPERS[paper[0]](net, beads, paper)


def room_keeps_off(net, beads, paper):
    return room_holds(net, paper[1]) and beads not in paper[1]


def fall_keeps_off(net, beads, paper):
    return fall_holds(net, paper[1]) and weighed(paper[1], beads) > weighed(paper[1], net.first)


def sum_keeps_off(net, beads, paper):
    return sum_holds(net, paper[1], paper[2]) and tells_apart(net, paper[1], paper[2], beads)


def wet_keeps_off(net, beads, paper):
    return wet_holds(net, paper[1]) and not lies_in(beads, paper[1])


# Whether it shows that the bowl never holds more than so many.
def bounds(net, bowl, most, paper):
    if paper[0] == "fence":
        return fence_holds(net, paper[1]) and all([is_no_more(mark[bowl], most) for mark in paper[1]])
    if paper[0] == "room":
        return room_holds(net, paper[1]) and all([beads[bowl] <= most for beads in paper[1]])
    weights = paper[1]
    if min(weights) < 0 or weights[bowl] == 0:
        return False
    return fall_holds(net, weights) and ceiling_of(net, weights, bowl) <= most


# Whether it shows that behind each run some door may go.
def keeps_going(net, paper):
    if paper[0] == "kept":
        return reasons_hold(net, paper[1])
    if paper[0] == "room":
        return room_holds(net, paper[1]) and not any([stuck_at(net, beads) for beads in paper[1]])
    return False


BARS = {"fence": fence_bars, "room": room_bars, "wants": wants_bar, "fall": fall_bars, "dry": dry_bars}

KEEPERS = {"room": room_keeps_off, "fall": fall_keeps_off, "sum": sum_keeps_off, "wet": wet_keeps_off}

EXAMINERS = {
    "cover": cover_shown,
    "reach": reach_shown,
    "most": most_shown,
    "stick": stick_shown,
    "ever": ever_shown,
}
