"""Beads that stick, the least stopper that stops them, and the reasons why a stopper never stops."""

from beadhall.bags import higher
from beadhall.bags import weighed
from beadhall.clearing import unit
from beadhall.goings import may
from beadhall.pits import is_within
from beadhall.pits import least_stoppers
from beadhall.sums import gains
from beadhall.sums import sums
from beadhall.traps import greatest_trap
from beadhall.traps import is_trap
from beadhall.traps import lies_in


def top_beads(net):
    tops = [0] * len(net.bowls)
    for takes in net.takes:
        tops = higher(tops, takes)
    return tops


def stuck_at(net, beads):
    return not any([may(net, beads, door) for door in range(len(net.doors))])


def stopped_by(net, beads):
    if not stuck_at(net, beads):
        return None
    tops = top_beads(net)
    low = [bowl for bowl in range(len(net.bowls)) if beads[bowl] < tops[bowl]]
    # There is one: the bowls that lack beads for some door are a stopper together.
    return [stopper for stopper in least_stoppers(net) if is_within(stopper, low)][0]


def kept_reasons(net):
    return [reason_for(net, stopper) for stopper in least_stoppers(net)]


def reason_for(net, stopper):
    tops = top_beads(net)
    trap = greatest_trap(net, [bowl for bowl in stopper if tops[bowl] == 1])[0]
    if is_trap_reason(net, stopper, trap):
        return ("trap", trap)
    for weights in weights_to_try(net, stopper):
        if is_weight_reason(net, stopper, weights):
            return ("weight", weights)
    return None


def weights_to_try(net, stopper):
    single = [unit(bowl, len(net.bowls)) for bowl in stopper]
    return single + [weights for bowl, weights in sums(net)]


# Whether it is a reason of one of the two kinds, told by `kept_reasons` or not; None is none.
def is_reason(net, stopper, reason):
    if reason is None:
        return False
    if reason[0] == "trap":
        return is_trap_reason(net, stopper, reason[1])
    return is_weight_reason(net, stopper, reason[1])


def is_trap_reason(net, stopper, bowls):
    tops = top_beads(net)
    within = [bowl in stopper and tops[bowl] == 1 for bowl in bowls]
    return all(within) and is_trap(net, bowls) and lies_in(net.first, bowls)


def is_weight_reason(net, stopper, weights):
    within = [0 <= weight if bowl in stopper else weight == 0 for bowl, weight in enumerate(weights)]
    kept = [weighed(weights, row) >= 0 for row in gains(net)]
    return all(within) and all(kept) and weighed(weights, net.first) > weighed(weights, most_stopped(net, stopper))


# The most beads that the stopper still stops, and none elsewhere.
def most_stopped(net, stopper):
    return [top - 1 if bowl in stopper else 0 for bowl, top in enumerate(top_beads(net))]
