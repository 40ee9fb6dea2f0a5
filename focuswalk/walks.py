"""The walk along all open parts, and on and back [10, 11]."""

from focuswalk.sheets import NAME, RANK
from focuswalk.views import open_tuples, refuse_not_open


def walk(sheet):
    """Tell the names of all open parts, in the order in which on leads along them."""
    parts = open_tuples(sheet)
    ranked = [part for part in parts if part[RANK] > 0]
    unranked = [part for part in parts if part[RANK] == 0]
    # Those of one rank stay as they stand: sorted keeps their order.
    ranked = sorted(ranked, key=lambda part: part[RANK])
    return [part[NAME] for part in ranked + unranked]


def on_from(sheet, name):
    """Tell the part to which on leads from an open part."""
    return stepped(sheet, name, 1)


def back_from(sheet, name):
    """Tell the part to which back leads from an open part."""
    return stepped(sheet, name, -1)


def stepped(sheet, name, step):
    """Tell the part so many steps on along the walk, which goes round."""
    refuse_not_open(sheet, name)
    names = walk(sheet)
    return names[(names.index(name) + step) % len(names)]
