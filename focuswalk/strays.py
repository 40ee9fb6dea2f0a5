"""Ways from whose end the way opposite doesn't come back [18]."""

from focuswalk.boxes import SIDES
from focuswalk.views import open_parts
from focuswalk.ways import nearest, opposite


def strays(sheet):
    """Tell (name, way, to, back) for each of the four that doesn't come back, by the sheet's order."""
    rows = []
    for name in open_parts(sheet):
        for way in SIDES:
            to = nearest(sheet, name, way)
            back = name if to is None else nearest(sheet, to, opposite(way))
            if back != name:
                rows.append((name, way, to, back))
    return rows
