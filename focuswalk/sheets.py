"""Names, and where the parts of a sheet stand [5, 6]."""

from focuswalk.errors import NoPart

LETTERS = "abcdefghijklmnopqrstuvwxyz"
LONGEST_NAME = 8

# Where these stand in the tuple of a part.
NAME = 0
BOX = 1
WORD = 2
RANK = 3
HEAD = 4
PARTS = 5


def is_name(thing):
    """Tell whether anything at all is a name."""
    if not isinstance(thing, str) or not 1 <= len(thing) <= LONGEST_NAME:
        return False
    # Not islower: it takes letters of other alphabets, too.
    return all(sign in LETTERS for sign in thing)


def names_of(sheet):
    """Tell all names, by the sheet's order."""
    return [part[NAME] for part in parts_of(sheet)]


def part_of(sheet, name):
    """Tell the tuple of the part of this name."""
    for part in parts_of(sheet):
        if part[NAME] == name:
            return part
    raise NoPart(name)


def place_of(sheet, name):
    """Tell the place of the part of this name."""
    for place, part in placed_parts(sheet):
        if part[NAME] == name:
            return place
    raise NoPart(name)


def around(sheet, name):
    """Tell the names of the parts around a part, from the outermost one inwards."""
    return [part[NAME] for part in chain_of(sheet, name)[:-1]]


def level_of(sheet, name):
    """Tell the names of the level of a part, by the sheet's order."""
    return [part[NAME] for part in level_parts(sheet, name)]


def inner_of(sheet, name):
    """Tell the names of the parts directly within a part, of the outer parts for None."""
    parts = sheet if name is None else part_of(sheet, name)[PARTS]
    return [part[NAME] for part in parts]


def chain_of(sheet, name):
    """Tell the tuples of the parts around a part, from the outermost one inwards, then its own."""
    chain = []
    parts = sheet
    for number in place_of(sheet, name):
        chain.append(parts[number])
        parts = parts[number][PARTS]
    return chain


def level_parts(sheet, name):
    """Tell the tuples of the level of a part, by the sheet's order."""
    chain = chain_of(sheet, name)
    return sheet if len(chain) == 1 else chain[-2][PARTS]


def parts_of(sheet):
    """Tell the tuples of all parts, by the sheet's order."""
    return [part for place, part in placed_parts(sheet)]


def placed_parts(sheet):
    """Tell a pair (place, part) for each part, by the sheet's order."""
    return placed_within(sheet, ())


def placed_within(parts, outer_place):
    """Tell such pairs of these parts, and of all within them."""
    pairs = []
    for number, part in enumerate(parts):
        place = outer_place + (number,)
        pairs.append((place, part))
        pairs.extend(placed_within(part[PARTS], place))
    return pairs
