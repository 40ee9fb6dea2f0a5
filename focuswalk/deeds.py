"""Deeds, and the sheets that come of them [21]."""

from focuswalk.checks import checked, is_box, is_head, is_rank, is_whole, is_word
from focuswalk.errors import NoDeed, NoPlace
from focuswalk.sheets import BOX, HEAD, NAME, PARTS, RANK, WORD, names_of, part_of

# Deeds that give a part one thing, and where it stands in the part's tuple.
GIVEN = {"word": WORD, "box": BOX, "rank": RANK, "head": HEAD}


def done(sheet, deed):
    """Tell the new sheet that comes of a deed; anything that can't be done is refused."""
    if not is_deed(deed):
        raise NoDeed("the thing is no deed")
    kind, name = deed[0], deed[1]
    if kind == "put":
        return checked(with_put(sheet, name, deed[2], deed[3]))
    part = part_of(sheet, name)
    if kind == "take":
        return checked(without(sheet, names_of((part,))))
    return checked(with_thing(sheet, name, GIVEN[kind], deed[2]))


def is_deed(thing):
    """Tell whether anything at all is a deed; the part put isn't looked at."""
    if not isinstance(thing, tuple) or len(thing) < 2:
        return False
    kind, name = thing[0], thing[1]
    if kind == "put" and name is None:
        return is_rest(kind, thing[2:])
    return isinstance(name, str) and is_rest(kind, thing[2:])


def is_rest(kind, rest):
    """Tell whether this is what stands behind the name in a deed of this kind."""
    if kind == "take":
        return len(rest) == 0
    if kind == "put":
        return len(rest) == 2 and is_whole(rest[0])
    return len(rest) == 1 and is_given(kind, rest[0])


def is_given(kind, thing):
    """Tell whether a deed of this kind gives a part this thing."""
    if kind == "word":
        return is_word(thing)
    if kind == "box":
        return is_box(thing)
    if kind == "rank":
        return is_rank(thing)
    return kind == "head" and is_head(thing)


def with_thing(parts, name, at, thing):
    """Tell these parts, that of this name, there or within, with another thing in its tuple."""
    rows = []
    for part in parts:
        things = list(part)
        things[PARTS] = with_thing(part[PARTS], name, at, thing)
        if part[NAME] == name:
            things[at] = thing
        rows.append(tuple(things))
    return tuple(rows)


def with_put(sheet, name, at, part):
    """Tell the sheet with one part more, directly within that of this name, or among the outer ones."""
    level = sheet if name is None else part_of(sheet, name)[PARTS]
    if not 0 <= at <= len(level):
        raise NoPlace("there is no such place among the parts there")
    level = level[:at] + (part,) + level[at:]
    return level if name is None else with_thing(sheet, name, PARTS, level)


def without(parts, gone):
    """Tell these parts, and all within, but those that go; who had one of these as head has none."""
    rows = []
    for part in parts:
        if part[NAME] not in gone:
            things = list(part)
            things[PARTS] = without(part[PARTS], gone)
            if part[HEAD] in gone:
                things[HEAD] = None
            rows.append(tuple(things))
    return tuple(rows)
