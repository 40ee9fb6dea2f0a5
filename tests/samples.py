"""Sheets and parts for the tests."""

import itertools
import random
import string

GREATEST = 10 ** 60 - 1
BOX = (0, 0, 1, 1)


def part(name, *parts, box=BOX, word="free", rank=0, head=None):
    """A part with the parts given directly within it."""
    return (name, box, word, rank, head, parts)


def with_thing(at, thing, name="a"):
    """A part that fits but for the thing number at."""
    things = list(part(name))
    things[at] = thing
    return tuple(things)


def many_names(many):
    """So many unlike names: aa, ab, ac and so on."""
    pairs = itertools.product(string.ascii_lowercase, repeat=2)
    return ["".join(pair) for pair in itertools.islice(pairs, many)]


def flat(many):
    """A sheet of so many outer parts."""
    return tuple(part(name) for name in many_names(many))


def buried(inner, deep):
    """A sheet in which the thing stands where a part that deep would stand."""
    for name in ["zw", "zx", "zy", "zz", "zv"][:deep - 1]:
        inner = part(name, inner)
    return (inner,)


def branching(many):
    """A sheet of so many parts, 8 in each outer one: it, one within it, two there and so on."""
    names = many_names(many)
    outer = []
    for start in range(0, many, 8):
        row = names[start:start + 8]
        four = [part(name) for name in row[4:]]
        three = [part(name, *four) for name in row[3:4]]
        two = [part(name, *three) for name in row[2:3]]
        one = [part(name, *two) for name in row[1:2]]
        outer.append(part(row[0], *one))
    return tuple(outer)


# Names that are beginnings of one another, and parts up to 5 deep.
DEEP = (
    part("a",
         part("ab",
              part("abc",
                   part("abcd", part("abcde"), part("abcdef")),
                   part("b"))),
         part("ac")),
    part("abcdefgh"),
    part("c", part("ca"), part("cb", part("cba")), part("cc")),
)

DEEP_NAMES = ["a", "ab", "abc", "abcd", "abcde", "abcdef", "b", "ac", "abcdefgh",
              "c", "ca", "cb", "cba", "cc"]


def in_a_row(*names):
    """Parts with these names, from left to right."""
    return tuple(part(name, box=(3 * at, 0, 2, 2)) for at, name in enumerate(names))


# Right leads from a to c, left from there to b, which is nearer; nothing leads to a.
ONE_WAY = (part("a", box=(0, 0, 10, 2)), part("b", box=(5, 0, 6, 4)), part("c", box=(20, 0, 1, 1)))


def with_level(deep, level):
    """A sheet in which this level stands so deep."""
    for name in ["zw", "zx", "zy", "zz"][:deep - 1]:
        level = (part(name, *level),)
    return level


def chance_box(chance, room):
    """A box of small numbers, so that many touch, have room in common or lie as near."""
    return (chance.randint(-room, room), chance.randint(-room, room),
            chance.randint(1, 4), chance.randint(1, 4))


def chance_nest(chance, names):
    """Nested lists [name, lists], up to 5 deep, each name at a place by chance."""
    outer = []
    rooms = [(outer, 1)]
    for name in names:
        room, deep = chance.choice(rooms)
        inner = []
        room.insert(chance.randint(0, len(room)), [name, inner])
        if deep < 5:
            rooms.append((inner, deep + 1))
    return outer


def chance_sheet(chance, many, free=0.7, room=6, heads=0.3):
    """A sheet that fits of so many parts, with so great a share of free ones and of heads."""
    names = many_names(many)
    chance.shuffle(names)
    # Heads are parts ahead, in this order or in the one that has all levels back to front.
    sign = chance.choice([1, -1])

    def parts_from(nest, outer, known):
        parts = []
        for name, inner in nest[::sign]:
            fitting = [other for other in known if other not in outer]
            head = chance.choice(fitting) if fitting and chance.random() < heads else None
            known.append(name)
            word = "free" if chance.random() < free else chance.choice(["shut", "hidden"])
            parts.append(part(name, *parts_from(inner, outer + [name], known),
                              box=chance_box(chance, room), word=word,
                              rank=chance.choice([0, 0, 1, 2, GREATEST]), head=head))
        return tuple(parts[::sign])

    return parts_from(chance_nest(chance, names), [], [])


def chance_sheets(seed, turns, most, **shares):
    """So many sheets by chance, of 0 to most parts."""
    chance = random.Random(seed)
    return [chance_sheet(chance, chance.randint(0, most), **shares) for turn in range(turns)]


def with_chains(parts, outer=()):
    """Lists of parts, by the sheet's order: all around a part from the outermost one, then it."""
    chains = []
    for one in parts:
        chains.append([*outer, one])
        chains += with_chains(one[5], (*outer, one))
    return chains


def with_words(sheet, words):
    """The sheet, each part that stands in the dict with this word."""
    return tuple((name, box, words.get(name, word), rank, head, with_words(parts, words))
                 for name, box, word, rank, head, parts in sheet)


def renamed(sheet, ending):
    """The sheet with other names, for parts and heads alike."""
    return tuple((name + ending, box, word, rank, head and head + ending, renamed(parts, ending))
                 for name, box, word, rank, head, parts in sheet)


def chance_put(chance, sheet, name):
    """A deed that puts one to three parts, nested or not, directly within the part of this name."""
    chains = {chain[-1][0]: chain for chain in with_chains(sheet)}
    fresh = [other for other in many_names(60) if other not in chains]
    inner = [part(other, box=chance_box(chance, 6)) for other in fresh[1:chance.choice([1, 1, 2, 3])]]
    put = part(fresh[0], *inner, box=chance_box(chance, 6), rank=chance.choice([0, 0, 1]),
               word=chance.choice(["free", "free", "shut", "hidden"]),
               head=chance.choice([None, None, *chains]))
    level = sheet if name is None else chains[name][-1][5]
    return ("put", name, chance.randint(0, len(level)), put)


def chance_deed(chance, sheet):
    """A deed of any kind; most of them can be done, those with heads and those that put not always."""
    names = [chain[-1][0] for chain in with_chains(sheet)]
    if not names:
        return chance_put(chance, sheet, None)
    name = chance.choice(names)
    kind = chance.choice(["word", "word", "word", "box", "rank", "head", "put", "put", "take"])
    if kind == "word":
        return (kind, name, chance.choice(["free", "free", "shut", "hidden"]))
    if kind == "box":
        return (kind, name, chance_box(chance, 6))
    if kind == "rank":
        return (kind, name, chance.choice([0, 1, 2, GREATEST]))
    if kind == "head":
        return (kind, name, chance.choice([None, *names]))
    if kind == "put":
        return chance_put(chance, sheet, chance.choice([None, None, *names]))
    return (kind, name)
