"""What several tests share: nets and numbers drawn the same each time, and checks of what is told."""

import copy
import itertools

from beadhall.bags import plus, times
from beadhall.errors import HallError, NoGo
from beadhall.nets import Net

KINDS = (list, tuple, int, str, type(None))


class Draw:
    """Numbers drawn one behind another, the same ones under every Python."""

    def __init__(self, seed):
        self.state = seed

    def number(self, low, high):
        self.state = (self.state * 6364136223846793005 + 1442695040888963407) % 2 ** 64
        return low + (self.state >> 33) % (high - low + 1)

    def bag(self, width, low, high):
        return [self.number(low, high) for _ in range(width)]

    def sparse(self, width, most):
        """Beads, about half of them nought."""
        return [self.number(1, most) * self.number(0, 1) for _ in range(width)]

    def net(self, bowls, doors, most):
        return net_of(
            self.sparse(bowls, most),
            [(self.sparse(bowls, most), self.sparse(bowls, most)) for _ in range(doors)])

    def moving_net(self, bowls, doors, top):
        """A net whose doors take from one bowl or two and give about as much, or just as much."""
        found = []
        for _ in range(doors):
            takes = [0] * bowls
            gives = [0] * bowls
            for _ in range(self.number(1, 2)):
                beads = self.number(1, top)
                takes[self.number(0, bowls - 1)] += beads
                gives[self.number(0, bowls - 1)] += beads
            gives[self.number(0, bowls - 1)] += self.number(0, 1)
            found.append((takes, gives))
        return net_of(self.sparse(bowls, 4), found)

    def keeping_net(self, bowls, doors, most, top):
        """A net of up to so many first beads, whose doors give as many beads as they take, or fewer."""
        found = []
        for _ in range(doors):
            takes = [0] * bowls
            gives = [0] * bowls
            takes[self.number(0, bowls - 1)] += self.number(1, top)
            for _ in range(sum(takes) - self.number(0, 1)):
                gives[self.number(0, bowls - 1)] += 1
            found.append((takes, gives))
        return net_of(self.sparse(bowls, most), found)

    def row(self, net, length):
        return [self.number(0, len(net.doors) - 1) for _ in range(length)]


def net_of(first, doors):
    """A net of these first beads and of doors that are told as pairs of what they take and give."""
    names = "abcdefghijklmnopqrstuvwxyz"
    return Net(
        list(names[:len(first)]), list(names[-len(doors):]) if doors else [],
        [takes for takes, gives in doors], [gives for takes, gives in doors], first)


def box(width, most):
    """All beads with numbers up to the told one."""
    found = [[]]
    for _ in range(width):
        found = [beads + [number] for beads in found for number in range(most + 1)]
    return found


def sets_of(bowls):
    """All sets of these bowls, those with fewer bowls first."""
    return [list(chosen) for size in range(len(bowls) + 1) for chosen in itertools.combinations(bowls, size)]


def rows_of_doors(net, length):
    """All rows of doors up to that length."""
    found = [[]]
    last = [[]]
    for _ in range(length):
        last = [row + [door] for row in last for door in range(len(net.doors))]
        found = found + last
    return found


def met_by_runs(net, most):
    """Beads behind runs, up to so many unlike ones, the shorter runs first."""
    found = [tuple(net.first)]
    for beads in found:
        for takes, gives in zip(net.takes, net.gives):
            if all(beads[bowl] >= takes[bowl] for bowl in range(len(beads))):
                behind = tuple(beads[bowl] - takes[bowl] + gives[bowl] for bowl in range(len(beads)))
                if behind not in found and len(found) < most:
                    found.append(behind)
    return [list(beads) for beads in found]


def added_up(rows, numbers, width):
    """The rows, each times its number, added up."""
    found = [0] * width
    for row, number in zip(rows, numbers, strict=True):
        found = plus(found, times(number, row))
    return found


def at_of(test, call, *handed):
    """The place that a refusal with NoGo tells."""
    with test.assertRaises(NoGo) as caught:
        call(*handed)
    test.assertIsInstance(caught.exception, HallError)
    test.assertIs(type(caught.exception.at), int)
    return caught.exception.at


def check_tables(test, tables):
    for rows, width in tables:
        with test.subTest(rows=rows, width=width):
            test.check(rows, width)


def parts(thing):
    """The thing and all that it holds."""
    yield thing
    if hasattr(thing, "__dict__"):
        thing = list(vars(thing).values())
    if isinstance(thing, (list, tuple)):
        for inner in thing:
            yield from parts(inner)


def lists_in(thing):
    return [part for part in parts(thing) if isinstance(part, list)]


def content(thing):
    """A copy that can be compared, objects told by their values."""
    if hasattr(thing, "__dict__"):
        return {name: copy.deepcopy(value) for name, value in vars(thing).items()}
    return copy.deepcopy(thing)


def check_kinds(test, told):
    """[0.4]: lists, tuples and whole numbers that are neither True nor False."""
    for part in parts(told):
        if not hasattr(part, "__dict__"):
            test.assertIn(type(part), KINDS)


def check_own(test, call, *handed):
    """[0.2]: what is handed in stays as it is, and what is told is the asker's own, the same each time."""
    before = [content(thing) for thing in handed]
    told = call(*handed)
    test.assertEqual([content(thing) for thing in handed], before)
    wanted = content(told)
    again = call(*handed)
    test.assertEqual(content(again), wanted)
    lists = lists_in(told) + lists_in(again)
    numbers = [id(part) for part in lists]
    test.assertEqual(len(numbers), len(set(numbers)), "a list stands at two places of what is told")
    kept = {id(part) for thing in handed for part in lists_in(thing)}
    test.assertFalse(kept & set(numbers), "a list that was handed in is told")
    for part in lists:
        part.append("changed")
    test.assertEqual([content(thing) for thing in handed], before)
    test.assertEqual(content(call(*handed)), wanted)


def check_copied(test, made, *handed):
    """[0.2]: nothing that is handed in is kept but as a copy. `made` gives back what is to be asked later."""
    asked = made(*handed)
    before = asked()
    for thing in handed:
        for part in lists_in(thing):
            part.clear()
    test.assertEqual(asked(), before)
