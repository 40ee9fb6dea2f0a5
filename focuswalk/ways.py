"""Where the keys lead [13, 14]."""

from focuswalk.boxes import lies, refuse_no_side
from focuswalk.errors import NoKey
from focuswalk.sheets import BOX, NAME, PARTS, WORD, around, level_parts, part_of
from focuswalk.views import refuse_not_open
from focuswalk.walks import back_from, on_from

KEYS = ("on", "back", "up", "down", "left", "right", "into", "out")
WAYS = ("up", "down", "left", "right", "into", "out")
OPPOSITES = {"up": "down", "down": "up", "left": "right", "right": "left"}


def nearest(sheet, name, way):
    """Tell the nearest open part of the level on this side of an open part, or None."""
    refuse_no_side(way)
    refuse_not_open(sheet, name)
    box = part_of(sheet, name)[BOX]
    rows = []
    # No box lies beside itself, so the part is none of these.
    for number, other in enumerate(level_parts(sheet, name)):
        near = lies(box, other[BOX], way)
        if near is not None and other[WORD] == "free":
            rows.append((near, number, other[NAME]))
    return min(rows)[2] if rows else None


def into(sheet, name):
    """Tell the first open part directly within an open part, or None."""
    refuse_not_open(sheet, name)
    free = [part[NAME] for part in part_of(sheet, name)[PARTS] if part[WORD] == "free"]
    return free[0] if free else None


def out_of(sheet, name):
    """Tell the part that an open part is directly within, or None."""
    refuse_not_open(sheet, name)
    outer_names = around(sheet, name)
    return outer_names[-1] if outer_names else None


def opposite(way):
    """Tell the way opposite to up, down, left or right."""
    refuse_no_side(way)
    return OPPOSITES[way]


def goes(sheet, name, key):
    """Tell where any of the eight keys leads from an open part, perhaps to None."""
    refuse_no_key(key)
    if key == "on":
        return on_from(sheet, name)
    if key == "back":
        return back_from(sheet, name)
    if key == "into":
        return into(sheet, name)
    if key == "out":
        return out_of(sheet, name)
    return nearest(sheet, name, key)


def refuse_no_key(key):
    """Refuse a text that is none of the eight keys."""
    if key not in KEYS:
        raise NoKey("the key is none of the eight")
