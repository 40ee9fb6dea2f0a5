"""Sheets and parts for the tests."""

import itertools
import string

GREATEST = 10 ** 60 - 1
BOX = (0, 0, 1, 1)


def part(name, *parts, box=BOX, word="free", rank=0, head=None):
    """A part with the parts given directly within it."""
    return (name, box, word, rank, head, parts)


def with_thing(at, thing, name="a"):
    """A part that fits but for the thing number at."""
    things = list(part(name))
    things[at] = thing
    return tuple(things)


def many_names(many):
    """So many unlike names: aa, ab, ac and so on."""
    pairs = itertools.product(string.ascii_lowercase, repeat=2)
    return ["".join(pair) for pair in itertools.islice(pairs, many)]


def flat(many):
    """A sheet of so many outer parts."""
    return tuple(part(name) for name in many_names(many))


def buried(inner, deep):
    """A sheet in which the thing stands where a part that deep would stand."""
    for name in ["zw", "zx", "zy", "zz", "zv"][:deep - 1]:
        inner = part(name, inner)
    return (inner,)


def branching(many):
    """A sheet of so many parts, 8 in each outer one: it, one within it, two there and so on."""
    names = many_names(many)
    outer = []
    for start in range(0, many, 8):
        row = names[start:start + 8]
        four = [part(name) for name in row[4:]]
        three = [part(name, *four) for name in row[3:4]]
        two = [part(name, *three) for name in row[2:3]]
        one = [part(name, *two) for name in row[1:2]]
        outer.append(part(row[0], *one))
    return tuple(outer)


# Names that are beginnings of one another, and parts up to 5 deep.
DEEP = (
    part("a",
         part("ab",
              part("abc",
                   part("abcd", part("abcde"), part("abcdef")),
                   part("b"))),
         part("ac")),
    part("abcdefgh"),
    part("c", part("ca"), part("cb", part("cba")), part("cc")),
)

DEEP_NAMES = ["a", "ab", "abc", "abcd", "abcde", "abcdef", "b", "ac", "abcdefgh",
              "c", "ca", "cb", "cba", "cc"]
