"""The desk, which answers lines with texts [27]."""

from focuswalk.errors import NoLine
from focuswalk.layers import unled
from focuswalk.readings import heard, reading
from focuswalk.rows import parted, row_to
from focuswalk.sheets import inner_of
from focuswalk.strays import strays
from focuswalk.texts import number_of, shown
from focuswalk.views import refuse_not_open
from focuswalk.walkers import Walker
from focuswalk.walks import walk
from focuswalk.ways import KEYS, goes

DASH = "-"

# What stands behind the first word of a line: any word, a place among the parts, a number.
FORMS = {
    "part": ("where", "any", "number", "number", "number", "number"),
    "word": ("any", "any"),
    "box": ("any", "number", "number", "number", "number"),
    "rank": ("any", "number"),
    "head": ("any", "where"),
    "take": ("any",),
    "press": ("any",),
    "stand": (),
    "walk": (),
    "unled": (),
    "keys": ("any",),
    "row": ("any", "any"),
    "strays": (),
    "read": (),
    "parted": (),
    "hear": ("any",),
    "show": (),
}

# The lines that ask for a deed; all others ask for an answer.
DEEDS = ("part", "word", "box", "rank", "head", "take")


def say_press(walker, things):
    """Press a key."""
    return name_or_dash(walker.press(things[0]))


def say_stand(walker, things):
    """Tell where the walker stands."""
    return name_or_dash(walker.stand())


def say_walk(walker, things):
    """Tell the walk."""
    return words_or_dash(walk(walker.sheet()))


def say_unled(walker, things):
    """Tell the open parts to which no way leads."""
    return words_or_dash(unled(walker.sheet()))


def say_keys(walker, things):
    """Tell where each key leads from a part, whatever the walker keeps."""
    sheet = walker.sheet()
    return rows_or_dash([(key, name_or_dash(goes(sheet, things[0], key))) for key in KEYS])


def say_row(walker, things):
    """Tell a shortest row of ways."""
    return words_or_dash(row_to(walker.sheet(), things[0], things[1]))


def say_strays(walker, things):
    """Tell the strays."""
    return rows_or_dash(strays(walker.sheet()))


def say_read(walker, things):
    """Tell the reading."""
    return rows_or_dash(reading(walker.sheet()))


def say_parted(walker, things):
    """Tell two parts that are parted."""
    told = parted(walker.sheet())
    return DASH if told is None else words_or_dash(told[:2])


def say_heard(walker, things):
    """Tell what is heard on the way from where the walker stands to an open part."""
    refuse_not_open(walker.sheet(), things[0])
    return rows_or_dash(heard(walker.sheet(), walker.stand(), things[0]))


def say_shown(walker, things):
    """Tell the text of the sheet on one line."""
    return shown(walker.sheet()).replace("\n", "; ")


ANSWERS = {
    "press": say_press,
    "stand": say_stand,
    "walk": say_walk,
    "unled": say_unled,
    "keys": say_keys,
    "row": say_row,
    "strays": say_strays,
    "read": say_read,
    "parted": say_parted,
    "hear": say_heard,
    "show": say_shown,
}


class Desk:
    """Takes lines and answers them, about a walker of its own."""

    def __init__(self):
        self.walker = Walker(())

    def say(self, line):
        """Answer a line with a text, or refuse."""
        first, *words = line.split(" ")
        if first not in FORMS or len(words) != len(FORMS[first]):
            raise NoLine("the line is none that the desk takes")
        things = [thing_of(word, kind) for word, kind in zip(words, FORMS[first])]
        if first in DEEDS:
            self.walker.do(deed_of(self.walker.sheet(), first, things))
            return "ok"
        action = ANSWERS[first]
        return action(self.walker, things)


def thing_of(word, kind):
    """Tell what a word of a line stands for, a text, a number or None, or refuse."""
    thing = number_of(word) if kind == "number" else word
    if thing is None or word == "":
        raise NoLine("a word of the line can't stand there")
    return None if kind == "where" and word == DASH else thing


def deed_of(sheet, first, things):
    """Tell the deed for which a line asks."""
    if first == "part":
        where, name, *box = things
        # Behind all that are there; a place that no part has is refused here, ahead of the rest.
        return "put", where, len(inner_of(sheet, where)), (name, tuple(box), "free", 0, None, ())
    if first == "box":
        return first, things[0], tuple(things[1:])
    return (first, *things)


def name_or_dash(name):
    """Tell a name, or a dash for none."""
    return DASH if name is None else name


def words_or_dash(words):
    """Tell words parted by blanks, or a dash for none."""
    return " ".join(words) or DASH


def rows_or_dash(rows):
    """Tell rows of words and small numbers parted by a comma and a blank, or a dash for none."""
    return ", ".join([" ".join([str(thing) for thing in row]) for row in rows]) or DASH
