"""How two sheets differ, and where somebody stands behind a change [22, 23]."""

from focuswalk.views import open_parts, refuse_not_open
from focuswalk.walks import walk
from focuswalk.ways import KEYS, goes


def differences(sheet, other):
    """Tell (name, key, was, now) for each key that leads elsewhere by the other sheet."""
    known = open_parts(sheet)
    rows = []
    for name in open_parts(other):
        if name in known:
            rows.extend(differences_from(sheet, other, name))
    return rows


def differences_from(sheet, other, name):
    """Tell such rows of one part that is open in both sheets."""
    rows = [(name, key, goes(sheet, name, key), goes(other, name, key)) for key in KEYS]
    return [row for row in rows if row[2] != row[3]]


def stand_behind(sheet, other, name):
    """Tell where they stand in the other sheet who stood on an open part of the sheet, or nowhere."""
    there = walk(other)
    row = there if name is None else walk_from(sheet, name) + there
    found = [stand for stand in row if stand in there]
    return found[0] if found else None


def walk_from(sheet, name):
    """Tell the walk once round, from an open part on."""
    refuse_not_open(sheet, name)
    names = walk(sheet)
    at = names.index(name)
    return names[at:] + names[:at]
