"""Rows of ways from part to part, and what is parted [16]."""

from focuswalk.errors import NoWay
from focuswalk.layers import reached, steps_of
from focuswalk.sheets import part_of
from focuswalk.views import open_parts, refuse_not_open
from focuswalk.ways import WAYS


def row_to(sheet, one, other):
    """Tell a shortest row of ways from an open part to another one, or refuse."""
    # Asked for the refusals alone: a name that no part has goes ahead of all that isn't open.
    part_of(sheet, one)
    part_of(sheet, other)
    refuse_not_open(sheet, one)
    refuse_not_open(sheet, other)
    steps = steps_of(sheet, open_parts(sheet), WAYS)
    rows = rows_from(steps, one)
    if other not in rows:
        raise NoWay(reached(steps, one))
    return rows[other]


def parted(sheet):
    """Tell two open parts with no row from one to other, and what one reaches; None of none."""
    names = open_parts(sheet)
    steps = steps_of(sheet, names, WAYS)
    for one in names:
        within = reached(steps, one)
        apart = [other for other in names if other not in within]
        if apart:
            return one, apart[0], within
    return None


def rows_from(steps, one):
    """Tell a dict with a shortest row of ways to each part that is reached from one."""
    rows = {one: []}
    waiting = [one]
    while waiting:
        name = waiting.pop(0)
        for way, to in steps[name]:
            if to not in rows:
                rows[to] = rows[name] + [way]
                waiting.append(to)
    return rows
