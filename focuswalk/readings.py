"""In which order all is read aloud, and what is heard on the way to a part [25, 26]."""

from focuswalk.checks import musts_of
from focuswalk.sheets import HEAD, around, level_of, names_of, part_of, place_of
from focuswalk.views import is_open, is_seen


def reading(sheet):
    """Tell the rows (name, word, deep, number, many) of all seen parts, in the order of reading."""
    return [row_of(sheet, name) for name in read_order(sheet) if is_seen(sheet, name)]


def heard(sheet, one, other):
    """Tell the pairs (name, why) heard by whoever comes from one, or from nowhere, to other."""
    known = [] if one is None else around(sheet, one) + [one]
    outer = [name for name in around(sheet, other) if name not in known]
    heads = [name for name in heads_of(sheet, other) if is_seen(sheet, name)]
    pairs = [(name, "within") for name in outer] + [(name, "head") for name in heads]
    return pairs + [(other, "here")]


def row_of(sheet, name):
    """Tell the row of a seen part."""
    word = "free" if is_open(sheet, name) else "shut"
    level = [other for other in level_of(sheet, name) if is_seen(sheet, other)]
    return name, word, len(place_of(sheet, name)), level.index(name) + 1, len(level)


def read_order(sheet):
    """Tell all names, again and again the first one for which nothing is left that must go ahead."""
    musts = musts_of(sheet)
    told = []
    left = names_of(sheet)
    while left:
        held = [other for one, other in musts if one in left]
        # There is one: the musts of a sheet that fits don't go round.
        name = [other for other in left if other not in held][0]
        told.append(name)
        left.remove(name)
    return told


def heads_of(sheet, name):
    """Tell a part's head, the head of that and so on, from the farthest one on."""
    heads = []
    head = part_of(sheet, name)[HEAD]
    while head is not None:
        heads.append(head)
        head = part_of(sheet, head)[HEAD]
    return heads[::-1]
