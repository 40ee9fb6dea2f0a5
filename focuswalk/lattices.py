"""Levels whose boxes stand in columns and rows [19]."""

from focuswalk.boxes import apart_by, stretch
from focuswalk.sheets import BOX, level_of, part_of
from focuswalk.views import is_open


def is_lattice(sheet, name):
    """Tell whether the open parts of the level of a part stand in columns and rows."""
    boxes = open_boxes(sheet, name)
    return all(are_crossed(one, other) for at, one in enumerate(boxes) for other in boxes[:at])


def is_full(sheet, name):
    """Tell whether the level of a part is a lattice with a box where each column meets each row."""
    if not is_lattice(sheet, name):
        return False
    boxes = open_boxes(sheet, name)
    return all(met(one, other) in boxes for one in boxes for other in boxes)


def open_boxes(sheet, name):
    """Tell the boxes of the open parts of the level of a part."""
    return [part_of(sheet, other)[BOX] for other in level_of(sheet, name) if is_open(sheet, other)]


def are_crossed(one, other):
    """Tell whether two unlike boxes have each stretch the same, or nothing of it in common."""
    return one != other and all(are_even(one, other, upright) for upright in (False, True))


def are_even(one, other, upright):
    """Tell whether the stretches of two boxes are the same, or have nothing in common."""
    first, second = stretch(one, upright), stretch(other, upright)
    return first == second or apart_by(first, second) >= 0


def met(one, other):
    """Tell the box with the one's stretch from left to right edge and the other's from top to foot."""
    return one[0], other[1], one[2], other[3]
