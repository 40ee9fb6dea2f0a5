"""Names, parts, places and levels [2, 5, 6]."""

import unittest

from focuswalk.errors import NoPart
from focuswalk.sheets import around, inner_of, is_name, level_of, names_of, part_of, place_of
from tests.samples import DEEP, DEEP_NAMES, branching, flat, many_names, part

ASKED = (part_of, place_of, around, level_of, inner_of)


class IsName(unittest.TestCase):
    def test_names(self):
        for text in ("a", "z", "save", "abcdefgh", "zzzzzzzz", "aaaaaaaa"):
            with self.subTest(text):
                self.assertIs(is_name(text), True)

    def test_each_small_letter(self):
        self.assertEqual([sign for sign in map(chr, range(0x250)) if is_name(sign)],
                         list("abcdefghijklmnopqrstuvwxyz"))

    def test_lengths(self):
        self.assertEqual([many for many in range(20) if is_name("a" * many)],
                         [1, 2, 3, 4, 5, 6, 7, 8])
        self.assertIs(is_name("a" * 8000), False)

    def test_other_signs(self):
        for text in ("A", "Ab", "aB", "a1", "1", "a b", " a", "a ", " ", "-", "a-b", "a_b", "_",
                     "a/b", "a\n", "\na", "a\nb", "\n", "abcdefgh\n", "a\t", "`", "{", "a{",
                     "\u00e9", "\u00df", "\u0430", "\uff41", "\u00aa"):
            with self.subTest(repr(text)):
                self.assertIs(is_name(text), False)

    def test_things_that_are_no_texts(self):
        for thing in (None, True, False, 0, 1, 1.5, b"a", ["a"], ("a",), {"a"}, {"a": 1}, [], (),
                      object(), str, len):
            with self.subTest(repr(thing)):
                self.assertIs(is_name(thing), False)


class SmallSheet(unittest.TestCase):
    def test_sheet_without_parts(self):
        self.assertEqual(names_of(()), [])
        self.assertEqual(inner_of((), None), [])

    def test_no_part_in_the_sheet_without_parts(self):
        for ask in ASKED:
            with self.subTest(ask.__name__), self.assertRaises(NoPart) as caught:
                ask((), "a")
            self.assertEqual(caught.exception.name, "a")

    def test_one_part(self):
        sheet = (part("a"),)
        self.assertEqual(names_of(sheet), ["a"])
        self.assertEqual(part_of(sheet, "a"), part("a"))
        self.assertEqual(place_of(sheet, "a"), (0,))
        self.assertEqual(around(sheet, "a"), [])
        self.assertEqual(level_of(sheet, "a"), ["a"])
        self.assertEqual(inner_of(sheet, "a"), [])
        self.assertEqual(inner_of(sheet, None), ["a"])


class DeepSheet(unittest.TestCase):
    def test_names_by_the_sheets_order(self):
        self.assertEqual(names_of(DEEP), DEEP_NAMES)

    def test_parts(self):
        self.assertEqual(part_of(DEEP, "a"), DEEP[0])
        self.assertEqual(part_of(DEEP, "ab"), DEEP[0][5][0])
        self.assertEqual(part_of(DEEP, "b"), DEEP[0][5][0][5][0][5][1])
        self.assertEqual(part_of(DEEP, "cc"), DEEP[2][5][2])

    def test_part_keeps_all_its_things(self):
        inner = part("b", box=(-3, 4, 5, 6), word="hidden", rank=7, head="c")
        outer = part("a", inner, box=(1, 2, 3, 4), word="shut", rank=2, head="c")
        sheet = (outer, part("c"))
        self.assertEqual(part_of(sheet, "a"), ("a", (1, 2, 3, 4), "shut", 2, "c", (inner,)))
        self.assertEqual(part_of(sheet, "b"), ("b", (-3, 4, 5, 6), "hidden", 7, "c", ()))

    def test_places(self):
        places = {"a": (0,), "ab": (0, 0), "abc": (0, 0, 0), "abcd": (0, 0, 0, 0),
                  "abcde": (0, 0, 0, 0, 0), "abcdef": (0, 0, 0, 0, 1), "b": (0, 0, 0, 1),
                  "ac": (0, 1), "abcdefgh": (1,), "c": (2,), "ca": (2, 0), "cb": (2, 1),
                  "cba": (2, 1, 0), "cc": (2, 2)}
        self.assertEqual({name: place_of(DEEP, name) for name in DEEP_NAMES}, places)

    def test_around(self):
        rows = {"a": [], "ab": ["a"], "abc": ["a", "ab"], "abcd": ["a", "ab", "abc"],
                "abcde": ["a", "ab", "abc", "abcd"], "abcdef": ["a", "ab", "abc", "abcd"],
                "b": ["a", "ab", "abc"], "ac": ["a"], "abcdefgh": [], "c": [], "ca": ["c"],
                "cb": ["c"], "cba": ["c", "cb"], "cc": ["c"]}
        self.assertEqual({name: around(DEEP, name) for name in DEEP_NAMES}, rows)

    def test_levels(self):
        levels = (["a", "abcdefgh", "c"], ["ab", "ac"], ["abc"], ["abcd", "b"],
                  ["abcde", "abcdef"], ["ca", "cb", "cc"], ["cba"])
        for level in levels:
            for name in level:
                with self.subTest(name):
                    self.assertEqual(level_of(DEEP, name), level)

    def test_inner(self):
        inner = {None: ["a", "abcdefgh", "c"], "a": ["ab", "ac"], "ab": ["abc"],
                 "abc": ["abcd", "b"], "abcd": ["abcde", "abcdef"], "abcde": [], "b": [],
                 "ac": [], "abcdefgh": [], "c": ["ca", "cb", "cc"], "ca": [], "cb": ["cba"],
                 "cba": [], "cc": []}
        self.assertEqual({name: inner_of(DEEP, name) for name in inner}, inner)

    def test_what_no_part_is_called(self):
        for name in ("abcdefg", "abcdefghi", "aa", "d", "", "A", "a ", " a", "a\n", "-", "0",
                     "no such part", "x" * 8000):
            for ask in ASKED:
                with self.subTest(f"{ask.__name__} {name[:20]!r}"):
                    with self.assertRaises(NoPart) as caught:
                        ask(DEEP, name)
                    self.assertEqual(caught.exception.name, name)


class ManyParts(unittest.TestCase):
    def test_forty_outer_parts(self):
        sheet, names = flat(40), many_names(40)
        self.assertEqual(names_of(sheet), names)
        self.assertEqual([place_of(sheet, name) for name in names], [(k,) for k in range(40)])
        self.assertEqual(level_of(sheet, names[39]), names)
        self.assertEqual(inner_of(sheet, None), names)

    def test_forty_parts_within_parts(self):
        sheet, names = branching(40), many_names(40)
        self.assertEqual(names_of(sheet), names)
        places = [place_of(sheet, name) for name in names]
        self.assertEqual(places, sorted(places))
        self.assertEqual(places[39], (4, 0, 0, 0, 3))
        for name in names:
            place = place_of(sheet, name)
            outer = [other for other in names
                     if place_of(sheet, other) == place[:len(place_of(sheet, other))]
                     and other != name]
            self.assertEqual(around(sheet, name), outer)
            level = [other for other in names
                     if place_of(sheet, other)[:-1] == place[:-1]]
            self.assertEqual(level_of(sheet, name), level)
            inner = [other for other in names if place_of(sheet, other)[:-1] == place]
            self.assertEqual(inner_of(sheet, name), inner)

    def test_numbers_above_nine_in_places(self):
        inner = [part(name) for name in many_names(12)]
        sheet = (part("x", *inner),)
        self.assertEqual(place_of(sheet, inner[2][0]), (0, 2))
        self.assertEqual(place_of(sheet, inner[11][0]), (0, 11))
        self.assertEqual(names_of(sheet), ["x", *many_names(12)])


class ListsAreTheAskersOwn(unittest.TestCase):
    def test_a_told_list_that_is_changed(self):
        asks = [(names_of, (DEEP,)), (around, (DEEP, "abcde")), (level_of, (DEEP, "cb")),
                (level_of, (DEEP, "a")), (inner_of, (DEEP, "c")), (inner_of, (DEEP, None))]
        for ask, given in asks:
            with self.subTest(f"{ask.__name__} {given[1:]}"):
                first = ask(*given)
                self.assertIs(type(first), list)
                kept = list(first)
                first.reverse()
                first.append("zz")
                self.assertEqual(ask(*given), kept)
                first.clear()
                self.assertEqual(ask(*given), kept)

    def test_later_asking_changes_no_told_list(self):
        told = inner_of(DEEP, "c")
        inner_of(DEEP, "a")
        names_of(())
        self.assertEqual(told, ["ca", "cb", "cc"])

    def test_kinds_of_values(self):
        self.assertIs(type(place_of(DEEP, "b")), tuple)
        self.assertIs(type(part_of(DEEP, "b")), tuple)
        self.assertIs(type(around(DEEP, "a")), list)


if __name__ == "__main__":
    unittest.main()
