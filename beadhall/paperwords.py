"""Papers read from rows, word by word, and written as rows."""

from beadhall.errors import BadPaper
from beadhall.nets import bowl_at
from beadhall.nets import door_at
from beadhall.papers import well_made
from beadhall.words import read_count

MOST_FIGURES = 1000

PAPER_FORMS = ("run", "branch", "fence", "room", "wants", "fall", "sum", "dry", "wet", "kept", "most", "none")
BOUND_FORMS = ("fence", "room", "fall")
REASON_FORMS = ("trap", "weight", "none")


# The words of a row and the place of the one that comes next; the number is the row's own, for the refusal.
class Cursor:
    def __init__(self, net, row, number):
        self.net = net
        self.words = row.split(" ")
        self.place = 0
        self.number = number


def read_paper(net, row):
    return paper_of_row(net, row, 1)


def paper_of_row(net, row, number):
    cursor = Cursor(net, row, number)
    paper = take_form(cursor, PAPER_FORMS)
    if not at_end(cursor) or (paper is not None and not well_made(net, paper)):
        refuse(cursor)
    return paper


def refuse(cursor):
    number = cursor.number
    raise BadPaper(f"row {number} is no paper", number)


def at_end(cursor):
    return cursor.place >= len(cursor.words)


def is_ahead(cursor, word):
    return not at_end(cursor) and cursor.words[cursor.place] == word


# All that take something refuse the row where something else comes next.
def take_word(cursor):
    if at_end(cursor):
        refuse(cursor)
    word = cursor.words[cursor.place]
    cursor.place = cursor.place + 1
    return word


def take_sign(cursor, sign):
    if take_word(cursor) != sign:
        refuse(cursor)


def take_form(cursor, forms):
    form = take_word(cursor)
    if form not in forms:
        refuse(cursor)
    return READERS[form](cursor)


def take_count(cursor):
    return count_or_refuse(cursor, take_word(cursor))


def count_or_refuse(cursor, word):
    count = read_count(word, MOST_FIGURES)
    if count is None:
        refuse(cursor)
    return count


def take_number(cursor):
    word = take_word(cursor)
    if not word.startswith("-"):
        return count_or_refuse(cursor, word)
    count = count_or_refuse(cursor, word[1:])
    if count == 0:
        refuse(cursor)
    return -count


def take_mark_number(cursor):
    word = take_word(cursor)
    return None if word == "*" else count_or_refuse(cursor, word)


# A name that the net hasn't has the place -1 here, and no paper with that place is rightly made.
def take_door(cursor):
    return door_at(cursor.net, take_word(cursor))


def take_bowl(cursor):
    return bowl_at(cursor.net, take_word(cursor))


def take_between(cursor, left, right, take):
    take_sign(cursor, left)
    found = []
    while not is_ahead(cursor, right):
        found.append(take(cursor))
    take_sign(cursor, right)
    return found


def take_to_end(cursor, take):
    found = []
    while not at_end(cursor):
        found.append(take(cursor))
    return found


def take_block(cursor):
    many = take_count(cursor)
    return (many, take_between(cursor, "(", ")", take_door))


def take_pair(cursor):
    door = take_door(cursor)
    if not is_ahead(cursor, "["):
        return (door, [])
    loops = take_between(cursor, "[", "]", take_count)
    if loops == []:
        refuse(cursor)
    return (door, loops)


def take_mark(cursor):
    return take_between(cursor, "<", ">", take_mark_number)


def take_beads(cursor):
    return take_between(cursor, "<", ">", take_count)


def take_weights(cursor):
    return take_between(cursor, "<", ">", take_number)


def take_reason(cursor):
    return take_form(cursor, REASON_FORMS)


def read_run(cursor):
    return ("run", take_to_end(cursor, take_block))


def read_branch(cursor):
    return ("branch", take_to_end(cursor, take_pair))


def read_fence(cursor):
    return ("fence", take_to_end(cursor, take_mark))


def read_room(cursor):
    return ("room", take_to_end(cursor, take_beads))


def read_wants(cursor):
    return ("wants", take_to_end(cursor, take_beads))


def read_fall(cursor):
    return ("fall", take_weights(cursor))


def read_sum(cursor):
    part = take_count(cursor)
    return ("sum", take_weights(cursor), part)


def read_dry(cursor):
    return ("dry", take_to_end(cursor, take_bowl))


def read_wet(cursor):
    return ("wet", take_to_end(cursor, take_bowl))


def read_kept(cursor):
    return ("kept", take_to_end(cursor, take_reason))


def read_trap(cursor):
    return ("trap", take_between(cursor, "(", ")", take_bowl))


def read_weight(cursor):
    return ("weight", take_weights(cursor))


# A block begins with a count, so a `by` ahead of one is never the name of a door.
def read_most(cursor):
    blocks = []
    while not is_ahead(cursor, "by"):
        blocks.append(take_block(cursor))
    take_sign(cursor, "by")
    return ("most", blocks, take_form(cursor, BOUND_FORMS))


def read_none(cursor):
    return None


READERS = {
    "run": read_run,
    "branch": read_branch,
    "fence": read_fence,
    "room": read_room,
    "wants": read_wants,
    "fall": read_fall,
    "sum": read_sum,
    "dry": read_dry,
    "wet": read_wet,
    "kept": read_kept,
    "trap": read_trap,
    "weight": read_weight,
    "most": read_most,
    "none": read_none,
}


def paper_text(net, paper):
    return " ".join(paper_words(net, paper))


def paper_words(net, paper):
    if paper is None:
        return ["none"]
    return [paper[0]] + WRITERS[paper[0]](net, paper)


def all_words(lists):
    words = []
    for more in lists:
        words.extend(more)
    return words


def names_words(names, places):
    return ["("] + [names[place] for place in places] + [")"]


def bag_words(bag):
    return ["<"] + ["*" if number is None else str(number) for number in bag] + [">"]


def blocks_words(net, paper):
    return all_words([[str(many)] + names_words(net.doors, doors) for many, doors in paper[1]])


def branch_words(net, paper):
    return all_words([[net.doors[door]] + loops_words(loops) for door, loops in paper[1]])


def loops_words(loops):
    if loops == []:
        return []
    return ["["] + [str(point) for point in loops] + ["]"]


def bags_words(net, paper):
    return all_words([bag_words(bag) for bag in paper[1]])


def weights_words(net, paper):
    return bag_words(paper[1])


def sum_words(net, paper):
    return [str(paper[2])] + bag_words(paper[1])


def set_words(net, paper):
    return [net.bowls[bowl] for bowl in paper[1]]


# A reason is written as papers are: its form, and what belongs to it.
def kept_words(net, paper):
    return all_words([paper_words(net, reason) for reason in paper[1]])


def trap_words(net, reason):
    return names_words(net.bowls, reason[1])


def most_words(net, paper):
    return blocks_words(net, paper) + ["by"] + paper_words(net, paper[2])


WRITERS = {
    "run": blocks_words,
    "branch": branch_words,
    "fence": bags_words,
    "room": bags_words,
    "wants": bags_words,
    "fall": weights_words,
    "sum": sum_words,
    "dry": set_words,
    "wet": set_words,
    "kept": kept_words,
    "trap": trap_words,
    "weight": weights_words,
    "most": most_words,
}
