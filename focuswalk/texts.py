"""Sheets written as texts, and texts read as sheets [8]."""

from focuswalk.checks import checked, is_box, is_rank, is_word
from focuswalk.errors import NoText
from focuswalk.sheets import is_name, placed_parts

FIGURES = "0123456789"
MOST_FIGURES = 60
NO_HEAD = "-"

# The first words of lines, by how deep a part is less 1.
DEPTHS = ("0", "1", "2", "3", "4")


def shown(sheet):
    """Tell the text of a sheet."""
    return "\n".join([line_of(part, len(place) - 1) for place, part in placed_parts(sheet)])


def read(text):
    """Tell the sheet of which this is the text, or refuse."""
    rows = []
    most = 0
    for number, line in enumerate(lines_of(text)):
        row = row_of(line, most)
        if row is None:
            raise NoText(number)
        rows.append(row)
        most = row[0] + 1
    return checked(sheet_of(rows))


def line_of(part, depth):
    """Tell the line of a part that has so many parts around it."""
    name, box, word, rank, head, parts = part
    numbers = [written(number) for number in box]
    words = [str(depth), name, *numbers, word, written(rank), head or NO_HEAD]
    return " ".join(words)


def written(number):
    """Tell a number as a text of figures, however great it is."""
    # Python's own str refuses numbers of some thousands of figures.
    pieces = []
    left = abs(number)
    while left >= 10 ** 60:
        left, piece = divmod(left, 10 ** 60)
        pieces.append(str(piece).zfill(60))
    pieces.append(str(left))
    sign = "-" if number < 0 else ""
    return sign + "".join(pieces[::-1])


def number_of(word):
    """Tell the number that a word is, None where it is none of at most sixty figures."""
    figures = word.removeprefix("-")
    if not 1 <= len(figures) <= MOST_FIGURES or not all(sign in FIGURES for sign in figures):
        return None
    if figures.startswith("0") and word != "0":
        return None
    return int(word)


def lines_of(text):
    """Tell the lines of a text; the text without signs has none."""
    return text.split("\n") if text else []


def row_of(line, most):
    """Tell a line as (depth, things of a part), None where it is none, or deeper than most."""
    words = line.split(" ")
    if len(words) != 9 or words[0] not in DEPTHS[:most + 1]:
        return None
    name, word, head = words[1], words[6], words[8]
    box = tuple(number_of(number) for number in words[2:6])
    rank = number_of(words[7])
    if not is_name(name) or not is_box(box) or not is_word(word) or not is_rank(rank):
        return None
    if head != NO_HEAD and not is_name(head):
        return None
    return DEPTHS.index(words[0]), (name, box, word, rank, None if head == NO_HEAD else head)


def sheet_of(rows):
    """Tell the sheet whose parts these rows are, in its order."""
    # From the end, so that all that is within a part is there ahead of it.
    waiting = [()] * (len(DEPTHS) + 1)
    for depth, things in reversed(rows):
        part = (*things, waiting[depth + 1])
        waiting[depth + 1] = ()
        waiting[depth] = (part, *waiting[depth])
    return waiting[0]
