"""Musts, and what is a sheet that fits [7]."""

from focuswalk.errors import MustRing, NoHead, NoSheet, TooMany, Twice
from focuswalk.sheets import HEAD, NAME, PARTS, is_name, names_of, parts_of, placed_parts

WORDS = ("free", "shut", "hidden")
DEEPEST = 5
MOST_PARTS = 40


def checked(thing):
    """Tell a sheet that fits as it was handed in; anything else is refused."""
    if not are_parts(thing, 1):
        raise NoSheet("the thing is not built as a sheet is")
    names = names_of(thing)
    if len(names) > MOST_PARTS:
        raise TooMany(len(names))
    refuse_twice(names)
    refuse_heads(thing)
    ring = ring_of(names, musts_of(thing))
    if ring:
        raise MustRing(ring)
    return thing


def musts_of(sheet):
    """Tell all musts of a sheet, each once."""
    musts = []
    for part in parts_of(sheet):
        musts.extend([(part[NAME], inner[NAME]) for inner in part[PARTS]])
        if part[HEAD] is not None:
            musts.append((part[HEAD], part[NAME]))
    return musts


def are_parts(thing, deep):
    """Tell whether a thing is a tuple of parts that may stand so deep."""
    if not isinstance(thing, tuple):
        return False
    if thing and deep > DEEPEST:
        return False
    return all(is_part(part, deep) for part in thing)


def is_part(thing, deep):
    """Tell whether a thing is a part that may stand so deep."""
    if not isinstance(thing, tuple) or len(thing) != 6:
        return False
    name, box, word, rank, head, parts = thing
    if not is_name(name) or not is_box(box) or not is_word(word):
        return False
    return is_rank(rank) and is_head(head) and are_parts(parts, deep + 1)


def is_whole(thing):
    """Tell whether a thing is a whole number."""
    return isinstance(thing, int) and not isinstance(thing, bool)


def is_box(thing):
    """Tell whether a thing is the box of a part."""
    if not isinstance(thing, tuple) or len(thing) != 4:
        return False
    if not all(is_whole(number) for number in thing):
        return False
    return thing[2] >= 1 and thing[3] >= 1


def is_word(thing):
    """Tell whether a thing is the word of a part."""
    return isinstance(thing, str) and thing in WORDS


def is_rank(thing):
    """Tell whether a thing is the rank of a part."""
    return is_whole(thing) and thing >= 0


def is_head(thing):
    """Tell whether a thing may stand as the head of a part."""
    return thing is None or is_name(thing)


def refuse_twice(names):
    """Refuse the first name that stands ahead already."""
    for number, name in enumerate(names):
        if name in names[:number]:
            raise Twice(name)


def refuse_heads(sheet):
    """Refuse the first part whose head can be no head of it."""
    pairs = placed_parts(sheet)
    places = {part[NAME]: place for place, part in pairs}
    for place, part in pairs:
        head = part[HEAD]
        if head is None:
            continue
        if head not in places or are_nested(places[head], place):
            raise NoHead(part[NAME])


def are_nested(one, other):
    """Tell whether two places are the same, or one is around the other."""
    # A part's place begins with the places of all that is around it.
    short = min(len(one), len(other))
    return one[:short] == other[:short]


def ring_of(names, musts):
    """Tell a ring of the musts as a list of names, [] where they don't go round."""
    tied = tied_names(names, musts)
    if not tied:
        return []
    row = [tied[0]]
    ahead = one_ahead(row[-1], tied, musts)
    while ahead not in row:
        row.append(ahead)
        ahead = one_ahead(row[-1], tied, musts)
    # The row was walked against the musts, so the ring is told from its end on.
    ring = row[row.index(ahead):]
    return ring[::-1]


def tied_names(names, musts):
    """Tell the names that stay when, again and again, those with none ahead of them go."""
    left = names
    while True:
        held = [other for one, other in musts if one in left]
        tied = [name for name in left if name in held]
        if len(tied) == len(left):
            return tied
        left = tied


def one_ahead(name, tied, musts):
    """Tell one of the tied names from which a must leads to this one."""
    # There is one: a name that had none would not be tied.
    return [one for one, other in musts if other == name and one in tied][0]
