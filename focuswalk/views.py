"""What is seen and what is open [9]."""

from focuswalk.errors import NotOpen
from focuswalk.sheets import NAME, PARTS, WORD, chain_of


def is_seen(sheet, name):
    """Tell whether neither a part nor one around it is hidden."""
    return all(part[WORD] != "hidden" for part in chain_of(sheet, name))


def is_open(sheet, name):
    """Tell whether a part and all around it are free."""
    return why_not(sheet, name) is None


def why_not(sheet, name):
    """Tell the word and the name of the part by which a part isn't open, None of an open one."""
    chain = chain_of(sheet, name)
    for word in ("hidden", "shut"):
        for part in chain:
            if part[WORD] == word:
                return word, part[NAME]
    return None


def open_parts(sheet):
    """Tell the names of all open parts, by the sheet's order."""
    return [part[NAME] for part in open_tuples(sheet)]


def open_tuples(parts):
    """Tell the tuples of the parts that are open, of these and all within, by their order."""
    tuples = []
    for part in parts:
        if part[WORD] == "free":
            tuples.append(part)
            tuples.extend(open_tuples(part[PARTS]))
    return tuples


def refuse_not_open(sheet, name):
    """Refuse a name that no part has, and a part that isn't open."""
    why = why_not(sheet, name)
    if why is not None:
        raise NotOpen(why)
