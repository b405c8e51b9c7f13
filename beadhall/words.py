"""What texts of nets, asks and papers share: rows that say nothing, counts, and parts."""

from beadhall.nets import place_of


def is_idle(row):
    return row == "" or row.startswith("#")


# None where the word is no count of at most so many figures. They are counted ahead of `int`, which
# would refuse a word of some thousand figures in its own way.
def read_count(word, figures):
    if not 1 <= len(word) <= figures or not all(["0" <= sign <= "9" for sign in word]):
        return None
    if word.startswith("0") and word != "0":
        return None
    return int(word)


# None where the words are no part. `read` tells the count that a word stands for, or None.
def read_part(bowls, words, read):
    bag = [0] * len(bowls)
    if words == ["-"]:
        return bag
    # A `+` behind the last piece makes every piece three words long.
    pieces = words + ["+"]
    if len(pieces) % 3 != 0:
        return None
    for start in range(0, len(pieces), 3):
        count = read(pieces[start])
        place = place_of(bowls, pieces[start + 1])
        if count is None or count == 0 or place == -1 or bag[place] > 0 or pieces[start + 2] != "+":
            return None
        bag[place] = count
    return bag


def part_text(bowls, bag):
    pieces = [f"{count} {name}" for name, count in zip(bowls, bag) if count > 0]
    if pieces == []:
        return "-"
    return " + ".join(pieces)
