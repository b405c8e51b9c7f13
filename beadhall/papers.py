"""Papers: whether they are rightly made for a net, and whether they hold for it. Nothing is searched here."""

from beadhall.bags import beneath
from beadhall.dues import never_rises
from beadhall.goings import after
from beadhall.goings import may
from beadhall.marks import mark_after
from beadhall.marks import may_mark
from beadhall.marks import under
from beadhall.pits import least_stoppers
from beadhall.stoppers import is_reason
from beadhall.sums import unmoved
from beadhall.traps import is_pit
from beadhall.traps import is_trap
from beadhall.traps import lies_in
from beadhall.wants import least_ahead


def fence_holds(net, marks):
    if not is_under_one(net.first, marks):
        return False
    for mark in marks:
        for door in range(len(net.doors)):
            if may_mark(net, mark, door) and not is_under_one(mark_after(net, mark, door), marks):
                return False
    return True


def is_under_one(mark, marks):
    return any([under(mark, other) for other in marks])


def room_holds(net, rooms):
    if net.first not in rooms:
        return False
    for beads in rooms:
        for door in range(len(net.doors)):
            if may(net, beads, door) and after(net, beads, door) not in rooms:
                return False
    return True


def wants_hold(net, goal, bags):
    if not is_above_one(goal, bags) or is_above_one(net.first, bags):
        return False
    for bag in bags:
        for door in range(len(net.doors)):
            if not is_above_one(least_ahead(net, bag, door), bags):
                return False
    return True


def is_above_one(beads, bags):
    return any([beneath(bag, beads) for bag in bags])


def fall_holds(net, weights):
    return never_rises(net, weights)


def sum_holds(net, weights, part):
    return (part == 0 or part >= 2) and unmoved(net, weights, part)


def dry_holds(net, bowls):
    return is_pit(net, bowls) and not lies_in(net.first, bowls)


def wet_holds(net, bowls):
    return is_trap(net, bowls) and lies_in(net.first, bowls)


def reasons_hold(net, reasons):
    stoppers = least_stoppers(net)
    if len(reasons) != len(stoppers):
        return False
    return all([is_reason(net, stopper, reason) for stopper, reason in zip(stoppers, reasons)])


def well_made(net, paper):
    return paper[0] in MAKERS and MAKERS[paper[0]](net, paper)


def run_well_made(net, paper):
    return all([many >= 0 and are_doors(net, doors) for many, doors in paper[1]])


def branch_well_made(net, paper):
    return are_doors(net, [door for door, loops in paper[1]])


def are_doors(net, doors):
    return all([0 <= door < len(net.doors) for door in doors])


def marks_well_made(net, paper):
    return all([is_mark(net, mark) for mark in paper[1]])


def bags_well_made(net, paper):
    return marks_well_made(net, paper) and not any([None in beads for beads in paper[1]])


def is_mark(net, mark):
    return is_wide_enough(net, mark) and all([number is None or number >= 0 for number in mark])


def is_wide_enough(net, bag):
    return len(bag) == len(net.bowls)


def weights_well_made(net, paper):
    return is_wide_enough(net, paper[1])


def set_well_made(net, paper):
    bowls = paper[1]
    return all([0 <= bowl < len(net.bowls) for bowl in bowls]) and bowls == sorted(set(bowls))


def kept_well_made(net, paper):
    return all([reason is None or reason_well_made(net, reason) for reason in paper[1]])


def reason_well_made(net, reason):
    if reason[0] == "trap":
        return set_well_made(net, reason)
    return reason[0] == "weight" and weights_well_made(net, reason)


def most_well_made(net, paper):
    return run_well_made(net, paper) and paper[2][0] in BOUNDS and BOUNDS[paper[2][0]](net, paper[2])


# The forms that a paper within a paper may have.
BOUNDS = {"fence": marks_well_made, "room": bags_well_made, "fall": weights_well_made}

MAKERS = {
    "run": run_well_made,
    "branch": branch_well_made,
    "fence": marks_well_made,
    "room": bags_well_made,
    "wants": bags_well_made,
    "fall": weights_well_made,
    "sum": weights_well_made,
    "dry": set_well_made,
    "wet": set_well_made,
    "kept": kept_well_made,
    "most": most_well_made,
}
