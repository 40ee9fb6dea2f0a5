"""Sheets and parts for the tests."""

import itertools
import random
import string

GREATEST = 10 ** 60 - 1
BOX = (0, 0, 1, 1)


def part(name, *parts, box=BOX, word="free", rank=0, head=None):
    """A part with the parts given directly within it."""
    return (name, box, word, rank, head, parts)


def with_thing(at, thing, name="a"):
    """A part that fits but for the thing number at."""
    things = list(part(name))
    things[at] = thing
    return tuple(things)


def many_names(many):
    """So many unlike names: aa, ab, ac and so on."""
    pairs = itertools.product(string.ascii_lowercase, repeat=2)
    return ["".join(pair) for pair in itertools.islice(pairs, many)]


def flat(many):
    """A sheet of so many outer parts."""
    return tuple(part(name) for name in many_names(many))


def buried(inner, deep):
    """A sheet in which the thing stands where a part that deep would stand."""
    for name in ["zw", "zx", "zy", "zz", "zv"][:deep - 1]:
        inner = part(name, inner)
    return (inner,)


def branching(many):
    """A sheet of so many parts, 8 in each outer one: it, one within it, two there and so on."""
    names = many_names(many)
    outer = []
    for start in range(0, many, 8):
        row = names[start:start + 8]
        four = [part(name) for name in row[4:]]
        three = [part(name, *four) for name in row[3:4]]
        two = [part(name, *three) for name in row[2:3]]
        one = [part(name, *two) for name in row[1:2]]
        outer.append(part(row[0], *one))
    return tuple(outer)


# Names that are beginnings of one another, and parts up to 5 deep.
DEEP = (
    part("a",
         part("ab",
              part("abc",
                   part("abcd", part("abcde"), part("abcdef")),
                   part("b"))),
         part("ac")),
    part("abcdefgh"),
    part("c", part("ca"), part("cb", part("cba")), part("cc")),
)

DEEP_NAMES = ["a", "ab", "abc", "abcd", "abcde", "abcdef", "b", "ac", "abcdefgh",
              "c", "ca", "cb", "cba", "cc"]


def chance_box(chance, room):
    """A box of small numbers, so that many touch, have room in common or lie as near."""
    return (chance.randint(-room, room), chance.randint(-room, room),
            chance.randint(1, 4), chance.randint(1, 4))


def chance_nest(chance, names):
    """Nested lists [name, lists], up to 5 deep, each name at a place by chance."""
    outer = []
    rooms = [(outer, 1)]
    for name in names:
        room, deep = chance.choice(rooms)
        inner = []
        room.insert(chance.randint(0, len(room)), [name, inner])
        if deep < 5:
            rooms.append((inner, deep + 1))
    return outer


def chance_sheet(chance, many, free=0.7, room=6, heads=0.3):
    """A sheet that fits of so many parts, with so great a share of free ones and of heads."""
    names = many_names(many)
    chance.shuffle(names)
    # Heads are parts ahead, in this order or in the one that has all levels back to front.
    sign = chance.choice([1, -1])

    def parts_from(nest, outer, known):
        parts = []
        for name, inner in nest[::sign]:
            fitting = [other for other in known if other not in outer]
            head = chance.choice(fitting) if fitting and chance.random() < heads else None
            known.append(name)
            word = "free" if chance.random() < free else chance.choice(["shut", "hidden"])
            parts.append(part(name, *parts_from(inner, outer + [name], known),
                              box=chance_box(chance, room), word=word,
                              rank=chance.choice([0, 0, 1, 2, GREATEST]), head=head))
        return tuple(parts[::sign])

    return parts_from(chance_nest(chance, names), [], [])


def chance_sheets(seed, turns, most, **shares):
    """So many sheets by chance, of 0 to most parts."""
    chance = random.Random(seed)
    return [chance_sheet(chance, chance.randint(0, most), **shares) for turn in range(turns)]


def with_chains(parts, outer=()):
    """Lists of parts, by the sheet's order: all around a part from the outermost one, then it."""
    chains = []
    for one in parts:
        chains.append([*outer, one])
        chains += with_chains(one[5], (*outer, one))
    return chains


def with_words(sheet, words):
    """The sheet, each part that stands in the dict with this word."""
    return tuple((name, box, words.get(name, word), rank, head, with_words(parts, words))
                 for name, box, word, rank, head, parts in sheet)
