"""Bags: lists of whole numbers of either sign. Every bag that is told is a new list."""

from beadhall.errors import Unlike


def refuse_unlike(ones, others):
    if len(ones) != len(others):
        raise Unlike("bags of unlike lengths")


def plus(ones, others):
    refuse_unlike(ones, others)
    return [one + other for one, other in zip(ones, others)]


def less(ones, others):
    refuse_unlike(ones, others)
    return [one - other for one, other in zip(ones, others)]


def higher(ones, others):
    refuse_unlike(ones, others)
    return [max(one, other) for one, other in zip(ones, others)]


def times(many, ones):
    return [many * one for one in ones]


def weighed(weights, ones):
    refuse_unlike(weights, ones)
    return sum([weight * one for weight, one in zip(weights, ones)])


def beneath(ones, others):
    refuse_unlike(ones, others)
    return all([one <= other for one, other in zip(ones, others)])


def above(ones, others):
    return beneath(others, ones)


def peaks(rows):
    return outermost(rows, beneath)


def floors(rows):
    return outermost(rows, above)


# `lies(row, other)` says that the other row lies further out than the row.
def outermost(rows, lies):
    for row in rows:
        refuse_unlike(rows[0], row)
    found = []
    for row in rows:
        if row not in found and is_outermost(row, rows, lies):
            found.append(list(row))
    return found


def is_outermost(row, rows, lies):
    for other in rows:
        if other != row and lies(row, other):
            return False
    return True


def measure(ones):
    found = 0
    for one in ones:
        found = common_divisor(found, abs(one))
    return found


def common_divisor(one, other):
    while other != 0:
        rest = one % other
        one = other
        other = rest
    return one


def lowered(ones):
    divisor = measure(ones)
    if divisor == 0:
        return list(ones)
    return [one // divisor for one in ones]
