"""Deeds, and the sheets that come of them [2, 3, 21]."""

import random
import unittest

from focuswalk.checks import checked
from focuswalk.deeds import done
from focuswalk.errors import (FocusError, MustRing, NoDeed, NoHead, NoPart, NoPlace, NoSheet, TooMany,
                              Twice)
from focuswalk.sheets import inner_of, names_of, part_of
from focuswalk.texts import shown
from tests.asking import Asking
from tests.plain import plain_done
from tests.samples import (DEEP, DEEP_NAMES, GREATEST, branching, buried, chance_deed, chance_sheets,
                           flat, many_names, part, with_thing)

GIVEN = {"word": ("shut", 2), "box": ((-3, 4, 5, 6), 1), "rank": (GREATEST, 3), "head": ("zz", 4)}

# One deed of each kind that can be done to (part("a", part("b")), part("c")).
GOOD = (("word", "a", "shut"), ("box", "b", (1, 2, 3, 4)), ("rank", "c", 7), ("head", "b", "c"),
        ("head", "b", None), ("put", None, 2, part("d")), ("put", "b", 0, part("d")), ("take", "a"))
SMALL = (part("a", part("b")), part("c"))


def others(sheet, name):
    """The things of all parts but the one of this name, without the parts within."""
    return [part_of(sheet, other)[:5] for other in names_of(sheet) if other != name]


class Deeds(Asking):
    def does(self, sheet, deed):
        """What comes of the deed, which leaves the sheet handed in as it was."""
        text = shown(sheet)
        told = done(sheet, deed)
        self.assertEqual(told, plain_done(sheet, deed))
        self.assertIs(checked(told), told)
        self.assertEqual(shown(sheet), text)
        return told


class OneThing(Deeds):
    def test_each_kind_at_any_depth(self):
        sheet = (*DEEP, part("zz"))
        for kind, (thing, at) in GIVEN.items():
            for name in DEEP_NAMES:
                told = self.does(sheet, (kind, name, thing))
                self.assertEqual(part_of(told, name)[at], thing)
                before, after = list(part_of(sheet, name)[:5]), list(part_of(told, name)[:5])
                before[at] = after[at] = None
                self.assertEqual(after, before)
                self.assertEqual(others(told, name), others(sheet, name))
                self.assertEqual(names_of(told), names_of(sheet))

    def test_what_is_there_already(self):
        for deed in (("word", "b", "free"), ("box", "b", (0, 0, 1, 1)), ("rank", "b", 0), ("head", "b", None)):
            self.assertEqual(self.does(SMALL, deed), SMALL)

    def test_each_word(self):
        for word in ("free", "shut", "hidden"):
            self.assertEqual(part_of(self.does(SMALL, ("word", "a", word)), "a")[2], word)

    def test_bounds_of_numbers(self):
        for box in ((0, 0, 1, 1), (-GREATEST, GREATEST, GREATEST, 1), (GREATEST, -GREATEST, 1, GREATEST)):
            self.assertEqual(part_of(self.does(SMALL, ("box", "b", box)), "b")[1], box)
        for rank in (0, 1, GREATEST):
            self.assertEqual(part_of(self.does(SMALL, ("rank", "b", rank)), "b")[3], rank)

    def test_head_and_none(self):
        told = self.does(SMALL, ("head", "c", "b"))
        self.assertEqual(part_of(told, "c")[4], "b")
        self.assertEqual(self.does(told, ("head", "c", None)), SMALL)

    def test_small_sheet(self):
        self.assertEqual(done(SMALL, ("word", "b", "hidden")), (part("a", part("b", word="hidden")), part("c")))
        self.assertEqual(done(SMALL, ("rank", "c", 3)), (part("a", part("b")), part("c", rank=3)))


class Take(Deeds):
    def test_an_outer_one(self):
        self.assertEqual(self.does(SMALL, ("take", "c")), SMALL[:1])
        self.assertEqual(self.does((part("a"),), ("take", "a")), ())

    def test_all_within_goes(self):
        self.assertEqual(self.does(SMALL, ("take", "a")), SMALL[1:])
        self.assertEqual(names_of(self.does(DEEP, ("take", "ab"))),
                         ["a", "ac", "abcdefgh", "c", "ca", "cb", "cba", "cc"])

    def test_at_any_depth(self):
        for name in DEEP_NAMES:
            gone = names_of((part_of(DEEP, name),))
            self.assertEqual(names_of(self.does(DEEP, ("take", name))),
                             [other for other in DEEP_NAMES if other not in gone])

    def test_heads_that_went_become_none_wherever_they_stand(self):
        sheet = (part("a", part("b", part("c"))), part("d", part("e", part("f", head="c"), head="b"), head="a"),
                 part("g", head="d"), part("h", part("i", head="g")))
        told = self.does(sheet, ("take", "a"))
        self.assertEqual(told, (part("d", part("e", part("f"))), part("g", head="d"), part("h", part("i", head="g"))))
        told = self.does(sheet, ("take", "c"))
        self.assertEqual([part_of(told, name)[4] for name in "defgi"], ["a", "b", None, "d", "g"])
        told = self.does(sheet, ("take", "d"))
        self.assertEqual([part_of(told, name)[4] for name in "gi"], [None, "g"])

    def test_heads_of_those_that_go_dont_count(self):
        sheet = (part("a", part("b", head="c")), part("c", head="d"), part("d"))
        self.assertEqual(self.does(sheet, ("take", "b")), (part("a"), *sheet[1:]))

    def test_names_that_begin_alike(self):
        sheet = (part("a"), part("ab", head="b"), part("b"), part("c", head="ab"))
        self.assertEqual(self.does(sheet, ("take", "b")), (part("a"), part("ab"), part("c", head="ab")))


class Put(Deeds):
    def test_among_the_outer_ones(self):
        for at in range(3):
            told = self.does(SMALL, ("put", None, at, part("x")))
            self.assertEqual(told, (*SMALL[:at], part("x"), *SMALL[at:]))
        self.assertEqual(self.does((), ("put", None, 0, part("x"))), (part("x"),))

    def test_within_a_part_of_any_depth(self):
        for name in DEEP_NAMES:
            inner = inner_of(DEEP, name)
            if name in ("abcde", "abcdef"):
                continue
            for at in range(len(inner) + 1):
                told = self.does(DEEP, ("put", name, at, part("x", rank=3)))
                self.assertEqual(inner_of(told, name), [*inner[:at], "x", *inner[at:]])
                self.assertEqual(part_of(told, "x"), part("x", rank=3))
                self.assertEqual(others(told, "x"), [part_of(DEEP, other)[:5] for other in DEEP_NAMES])

    def test_a_part_with_parts_within_it(self):
        put = part("x", part("y", part("z", head="c")), part("w"), head="b", word="shut")
        self.assertEqual(self.does(SMALL, ("put", "a", 1, put)), (part("a", part("b"), put), SMALL[1]))
        self.assertEqual(self.does(SMALL, ("put", None, 1, put)), (SMALL[0], put, SMALL[1]))

    def test_a_level_with_more_than_nine(self):
        for at in (0, 9, 10, 11, 38, 39):
            told = self.does(flat(39), ("put", None, at, part("x")))
            self.assertEqual(names_of(told), [*many_names(39)[:at], "x", *many_names(39)[at:]])

    def test_five_deep(self):
        sheet = buried(part("a"), 4)
        self.assertEqual(self.does(sheet, ("put", "a", 0, part("b"))), buried(part("a", part("b")), 4))

    def test_its_head_is_there(self):
        for head in ("a", "b", "c"):
            told = self.does(SMALL, ("put", None, 0, part("x", head=head)))
            self.assertEqual(part_of(told, "x")[4], head)


NAMES_THAT_ARE_NONE = (None, True, False, 0, 1, b"a", ["a"], ("a",), ())
NO_WORDS = (None, True, 0, "", "Free", "open", "free ", "fre", "shut\n", ["free"], ("free",), b"free")
NO_BOXES = (None, True, 1, "0 0 1 1", [0, 0, 1, 1], (), (0, 0, 1), (0, 0, 1, 1, 1), (0, 0, 0, 1),
            (0, 0, 1, 0), (0, 0, -1, 1), (0, 0, 1, -GREATEST), (True, 0, 1, 1), (0, False, 1, 1),
            (0, 0, True, 1), (0, 0, 1, True), ("0", 0, 1, 1), (0, None, 1, 1), (0, 0, [1], 1),
            ((0, 0, 1, 1),))
NO_RANKS = (None, True, False, -1, -GREATEST, "0", "", [0], (0,))
NO_HEADS = (True, False, 0, "", "-", "A", "a" * 9, "a b", "a\n", b"c", ["c"], ("c",), ())
NO_NUMBERS = (None, True, False, "0", "", [0], (0,), b"0")


class NoDeeds(Asking):
    def none(self, thing):
        with self.subTest(repr(thing)[:80]):
            self.refused(NoDeed, done, SMALL, thing)
            self.refused(NoDeed, done, (), thing)

    def test_good_ones(self):
        for deed in GOOD:
            self.assertNotEqual(done(SMALL, deed), None)

    def test_anything(self):
        for thing in (None, True, False, 0, 7, -1, "", "take", "take a", b"take", [], (), {}, set(),
                      1.5, object(), done, (None,), ("take",), ("word",), ("put",), (("take", "a"),),
                      ((),), ([],), (1, 2), (1, 2, 3), SMALL, part("a"), ("a", "take"),
                      (None, "a"), (["take"], "a"), (("take",), "a"), (b"take", "a"), ({}, "a"),
                      (True, "a", "free"), (0, "a", 0), (None, "a", 0, part("x"))):
            self.none(thing)

    def test_lists_for_tuples(self):
        for deed in GOOD:
            self.none(list(deed))
            self.none([deed])
            self.none((deed,))
            self.none({at: thing for at, thing in enumerate(deed)})

    def test_a_thing_too_few_or_too_many(self):
        for deed in GOOD:
            for at in range(len(deed)):
                self.none(deed[:at] + deed[at + 1:])
            for thing in (None, 0, "a", "free", part("x"), ()):
                self.none((*deed, thing))
            self.none(deed + deed)

    def test_another_first_word(self):
        for deed in GOOD:
            for word in ("", "Word", "TAKE", "word ", " put", "takes", "name", "parts", "free", "box\n", "out"):
                self.none((word, *deed[1:]))
        for one in GOOD:
            for other in GOOD:
                if len(one) != len(other):
                    self.none((one[0], *other[1:]))

    def test_a_name_that_is_no_text(self):
        for deed in GOOD:
            for name in NAMES_THAT_ARE_NONE:
                if (deed[0], name) != ("put", None):
                    self.none((deed[0], name, *deed[2:]))

    def test_things_given_that_are_none(self):
        for kind, things in (("word", NO_WORDS), ("box", NO_BOXES), ("rank", NO_RANKS), ("head", NO_HEADS)):
            for thing in things:
                self.none((kind, "a", thing))

    def test_at_that_is_no_whole_number(self):
        for at in NO_NUMBERS:
            for name in ("a", None):
                self.none(("put", name, at, part("x")))

    def test_ahead_of_no_part(self):
        for name in ("x", "", "A", "-"):
            for deed in (("word", name, "open"), ("box", name, (0, 0, 0, 1)), ("rank", name, -1),
                         ("head", name, "A"), ("put", name, True, part("y")), ("put", name, None, 5),
                         ("take", name, None), ("put", name, 0)):
                self.none(deed)

    def test_ahead_of_no_place_and_of_the_rest(self):
        self.none(("put", "a", "-1", part("x")))
        self.none(("put", "a", False, part("a")))
        self.none(("head", "a", ""))

    def test_nested_thirty_deep(self):
        thing = ()
        for deep in range(30):
            thing = (thing,)
            self.none(thing)
            self.none(("word", "a", thing))


class NoParts(Asking):
    def test_a_name_that_no_part_has(self):
        for deed in GOOD:
            for name in ("x", "", "A", "ab", "a ", "-", "None", "take", "x" * 8000):
                changed = (deed[0], name, *deed[2:])
                self.assertEqual(self.refused(NoPart, done, SMALL, changed).name, name)
                self.assertEqual(self.refused(NoPart, done, (), changed).name, name)

    def test_ahead_of_no_place(self):
        for at in (-1, 9, -GREATEST, GREATEST):
            for put in (part("x"), None, part("a")):
                self.assertEqual(self.refused(NoPart, done, SMALL, ("put", "x", at, put)).name, "x")

    def test_ahead_of_what_comes_of_it(self):
        for deed in (("put", "x", 0, None), ("put", "x", 0, part("a")), ("head", "x", "x"), ("head", "x", "y")):
            self.assertEqual(self.refused(NoPart, done, SMALL, deed).name, "x")

    def test_the_part_put_is_not_there_yet(self):
        self.assertEqual(self.refused(NoPart, done, SMALL, ("put", "x", 0, part("x"))).name, "x")


class NoPlaces(Asking):
    def test_below_nought_and_greater_than_how_many(self):
        for name, many in ((None, 2), ("a", 1), ("b", 0), ("c", 0)):
            for at in (-GREATEST, -2, -1, many + 1, many + 2, GREATEST):
                self.refused(NoPlace, done, SMALL, ("put", name, at, part("x")))
            done(SMALL, ("put", name, many, part("x")))
        self.refused(NoPlace, done, (), ("put", None, 1, part("x")))
        self.refused(NoPlace, done, flat(40), ("put", None, 41, part("x")))

    def test_ahead_of_what_comes_of_it(self):
        for put in (None, 5, "x", (), part("a"), part("x", head="x"), with_thing(3, -1)):
            self.refused(NoPlace, done, SMALL, ("put", "a", 2, put))
            self.refused(NoPlace, done, SMALL, ("put", None, -1, put))
        self.refused(NoPlace, done, buried(part("a"), 5), ("put", "a", 1, part("x")))


class WhatComesOfIt(Asking):
    def test_no_sheet(self):
        ring = []
        ring.append(ring)
        deep = ()
        for turn in range(30):
            deep = (deep,)
        for put in (None, True, 0, "", "x", b"x", [], (), {}, ring, deep, (part("x"),), list(part("x")),
                    part("x")[:5], part("x") + ((),), with_thing(0, "A"), with_thing(1, (0, 0, 0, 1)),
                    with_thing(2, "open"), with_thing(3, True), with_thing(4, ""), with_thing(5, [part("x")]),
                    with_thing(5, None), part("x", None), part("x", part("y", with_thing(2, None))),
                    tuple(range(2000))):
            for name in (None, "a", "b", "c"):
                self.refused(NoSheet, done, SMALL, ("put", name, 0, put))

    def test_deeper_than_five(self):
        self.refused(NoSheet, done, buried(part("a"), 5), ("put", "a", 0, part("x")))
        self.refused(NoSheet, done, buried(part("a"), 4), ("put", "a", 0, part("x", part("y"))))
        self.refused(NoSheet, done, (), ("put", None, 0, buried(part("x"), 6)[0]))
        self.assertEqual(done((), ("put", None, 0, buried(part("x"), 5)[0])), buried(part("x"), 5))

    def test_too_many(self):
        for name in (None, "aa", "ab"):
            for put, many in ((part("x"), 41), (part("x", part("y", part("z"))), 43), (part("aa"), 41)):
                self.assertEqual(self.refused(TooMany, done, branching(40), ("put", name, 0, put)).many, many)
        done(flat(39), ("put", None, 0, part("x")))

    def test_twice(self):
        for name in (None, "a", "b", "c"):
            for twice in ("a", "b", "c"):
                self.assertEqual(self.refused(Twice, done, SMALL, ("put", name, 0, part(twice))).name, twice)
        self.assertEqual(self.refused(Twice, done, SMALL, ("put", "c", 0, part("x", part("x")))).name, "x")
        # The first one, by the order of the sheet that came of it.
        both = part("x", part("c"), part("b"))
        self.assertEqual(self.refused(Twice, done, SMALL, ("put", None, 0, both)).name, "b")
        self.assertEqual(self.refused(Twice, done, SMALL, ("put", None, 2, both)).name, "c")

    def test_no_head(self):
        for name, head in (("a", "x"), ("a", "a"), ("a", "b"), ("b", "a"), ("c", "c")):
            self.assertEqual(self.refused(NoHead, done, SMALL, ("head", name, head)).name, name)
        for put in (part("x", head="y"), part("x", head="x"), part("x", part("y"), head="y"), part("x", head="a")):
            self.assertEqual(self.refused(NoHead, done, SMALL, ("put", "b", 0, put)).name, "x")
        self.assertEqual(self.refused(NoHead, done, SMALL, ("put", "b", 0, part("x", part("y", head="b")))).name,
                         "y")

    def test_must_ring(self):
        sheet = (part("a", part("b")), part("c", head="b"))
        names = self.refused(MustRing, done, sheet, ("head", "a", "c")).names
        self.assertEqual(sorted(names), ["a", "b", "c"])
        self.assertIn(names, (["a", "b", "c"], ["b", "c", "a"], ["c", "a", "b"]))
        names.clear()
        self.assertEqual(len(self.refused(MustRing, done, sheet, ("head", "a", "c")).names), 3)
        put = part("x", part("y", head="z"), part("z", head="y"))
        for name in (None, "a", "c"):
            names = self.refused(MustRing, done, sheet, ("put", name, 0, put)).names
            self.assertEqual(sorted(names), ["y", "z"])

    def test_in_this_order(self):
        ring = (part("y", head="z"), part("z", head="y"))
        broken = with_thing(3, -1, name="w")
        full = flat(36)
        self.refused(NoSheet, done, full, ("put", None, 0, part("aa", part("ab", head="q"), *ring, broken)))
        put = part("aa", part("ab", head="q"), *ring, part("w"))
        self.assertEqual(self.refused(TooMany, done, full, ("put", None, 0, put)).many, 41)
        put = part("aa", part("x", head="q"), *ring)
        self.assertEqual(self.refused(Twice, done, full, ("put", None, 0, put)).name, "aa")
        put = part("w", part("x", head="q"), *ring)
        self.assertEqual(self.refused(NoHead, done, full, ("put", None, 0, put)).name, "x")
        put = part("w", part("x"), *ring)
        self.assertEqual(sorted(self.refused(MustRing, done, full, ("put", None, 0, put)).names), ["y", "z"])

    def test_done_once_what_stood_in_its_way_is_gone(self):
        sheet = (part("a", part("b")), part("c", head="b"))
        text = shown(sheet)
        for kind, deed, first in ((MustRing, ("head", "a", "c"), ("head", "c", None)),
                                  (Twice, ("put", "a", 1, part("c")), ("take", "c")),
                                  (NoHead, ("head", "b", "x"), ("put", None, 0, part("x"))),
                                  (NoPart, ("rank", "x", 5), ("put", "c", 0, part("x"))),
                                  (NoPlace, ("put", "b", 1, part("y")), ("put", "b", 0, part("x")))):
            self.refused(kind, done, sheet, deed)
            self.assertEqual(shown(sheet), text)
            told = done(done(sheet, first), deed)
            self.assertEqual(told, plain_done(plain_done(sheet, first), deed))
        full = flat(40)
        self.refused(TooMany, done, full, ("put", "ab", 0, part("x")))
        self.assertEqual(len(names_of(done(done(full, ("take", "aa")), ("put", "ab", 0, part("x"))))), 40)
        deep = buried(part("a"), 5)
        self.refused(NoSheet, done, deep, ("put", "a", 0, part("x")))
        self.assertEqual(done(done(deep, ("take", "a")), ("put", "zw", 0, part("x"))), buried(part("x"), 5))


class ByChance(Deeds):
    def refusal_of(self, ask, thing):
        try:
            return ask(thing), None
        except FocusError as refusal:
            return None, (type(refusal), vars(refusal))

    def test_as_a_plain_telling_has_it(self):
        chance = random.Random(26)
        counts = {}
        for sheet in chance_sheets(27, 150, 14):
            for turn in range(12):
                deed = chance_deed(chance, sheet)
                text = shown(sheet)
                told, refusal = self.refusal_of(lambda thing: done(sheet, thing), deed)
                fits, due = self.refusal_of(checked, plain_done(sheet, deed))
                self.assertEqual((told, refusal), (fits, due))
                self.assertEqual(shown(sheet), text)
                key = (deed[0], refusal and refusal[0].__name__)
                counts[key] = counts.get(key, 0) + 1
                sheet = sheet if told is None else told
        for kind in ("word", "box", "rank", "head", "put", "take"):
            self.assertGreater(counts[kind, None], 20, counts)
        for kind in ("NoHead", "MustRing"):
            self.assertGreater(counts["head", kind], 5, counts)
        self.assertGreater(counts["put", "NoSheet"], 5, counts)


if __name__ == "__main__":
    unittest.main()
