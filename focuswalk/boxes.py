"""Where a box lies of another one, and how near [12]."""

from focuswalk.errors import NoKey

SIDES = ("up", "down", "left", "right")


def lies(box, other, way):
    """Tell how near the box other lies on this side of box, None where it doesn't lie there."""
    refuse_no_side(way)
    upright = way in ("up", "down")
    start, end = stretch(box, upright)
    other_start, other_end = stretch(other, upright)
    gap = start - other_end if way in ("up", "left") else other_start - end
    if gap < 0:
        return None
    apart = apart_by(stretch(box, not upright), stretch(other, not upright))
    beam = 0 if apart < 0 else 1
    return beam, gap, max(apart, 0)


def refuse_no_side(way):
    """Refuse a text that is none of up, down, left and right."""
    if way not in SIDES:
        raise NoKey("the way is none of up, down, left and right")


def stretch(box, upright):
    """Tell the ends of a box, from top to foot if upright, else from left to the right edge."""
    left, top, wide, high = box
    return (top, top + high) if upright else (left, left + wide)


def apart_by(one, other):
    """Tell how far two stretches are apart: 0 where they touch, less where they share something."""
    return max(one[0], other[0]) - min(one[1], other[1])
