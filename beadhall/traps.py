"""Sets of bowls that beads can't all leave (traps) or can't come into (pits)."""


def takes_from(net, door, bowls):
    return lies_in(net.takes[door], bowls)


def gives_to(net, door, bowls):
    return lies_in(net.gives[door], bowls)


def lies_in(beads, bowls):
    return any([beads[bowl] > 0 for bowl in bowls])


def is_trap(net, bowls):
    return is_closed(net, bowls, takes_from, gives_to)


def is_pit(net, bowls):
    return is_closed(net, bowls, gives_to, takes_from)


# A pit is a trap of the net with all its doors turned round. So what is told of both is told once,
# of doors that touch a set and of doors that pay for it.
def is_closed(net, bowls, touches, pays):
    for door in range(len(net.doors)):
        if touches(net, door, bowls) and not pays(net, door, bowls):
            return False
    return True


def greatest_trap(net, bowls):
    return peeled(net, bowls, takes_from, gives_to)


def greatest_pit(net, bowls):
    return peeled(net, bowls, gives_to, takes_from)


def peeled(net, bowls, touches, pays):
    left = list(bowls)
    peel = []
    pair = first_to_peel(net, left, touches, pays)
    while pair is not None:
        peel.append(pair)
        left.remove(pair[0])
        pair = first_to_peel(net, left, touches, pays)
    return (left, peel)


def first_to_peel(net, left, touches, pays):
    for bowl in left:
        for door in range(len(net.doors)):
            if touches(net, door, [bowl]) and not pays(net, door, left):
                return (bowl, door)
    return None
