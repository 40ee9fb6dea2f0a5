"""Where the keys lead [2, 3, 13, 14]."""

import random
import unittest

from focuswalk.errors import NoKey, NoPart, NotOpen
from focuswalk.views import open_parts, why_not
from focuswalk.ways import goes, into, nearest, opposite, out_of
from tests.asking import Asking
from tests.plain import KEYS, SIDES, plain_goes
from tests.samples import (DEEP, DEEP_NAMES, GREATEST, buried, chance_box, chance_sheets, many_names,
                           part, with_level, with_words)

OTHER_TEXTS = ("", "Up", "UP", "up ", " up", "u", "updown", "up\n", "north", "above", "-", "x" * 8000)


def beside(*boxes):
    """A sheet of outer parts b, c and so on with these boxes, behind the part a with (0, 0, 4, 4)."""
    names = "bcdefghijk"
    return (part("a", box=(0, 0, 4, 4)),
            *[part(name, box=box) for name, box in zip(names, boxes)])


def crossed(many):
    """So many names, each with a field (column, row), eight columns, in a mixed order."""
    names = many_names(many)
    fields = [(at % 8, at // 8) for at in range(many)]
    random.Random(4).shuffle(fields)
    return {name: field for name, field in zip(names, fields)}


class Nearest(Asking):
    def led(self, sheet, name="a"):
        return [nearest(sheet, name, way) for way in SIDES]

    def test_four_sides(self):
        sheet = beside((0, -9, 4, 4), (0, 9, 4, 4), (-9, 0, 4, 4), (9, 0, 4, 4))
        self.assertEqual(self.led(sheet), ["b", "c", "d", "e"])
        self.assertEqual([nearest(sheet, name, way) for name, way in
                          (("b", "down"), ("c", "up"), ("d", "right"), ("e", "left"))], ["a"] * 4)

    def test_none_there(self):
        self.assertEqual(self.led(beside()), [None] * 4)
        self.assertEqual(self.led(beside((9, 0, 4, 4))), [None, None, None, "b"])

    def test_boxes_that_touch(self):
        self.assertEqual(self.led(beside((4, 0, 4, 4))), [None, None, None, "b"])
        self.assertEqual(self.led(beside((4, 4, 4, 4))), [None, "b", None, "b"])
        self.assertEqual(self.led(beside((-4, -4, 4, 4))), ["b", None, "b", None])

    def test_boxes_with_room_in_common(self):
        for box in ((3, 0, 4, 4), (0, 0, 4, 4), (1, 1, 1, 1), (-9, -9, 30, 30), (3, 3, 9, 9)):
            self.assertEqual(self.led(beside(box)), [None] * 4)

    def test_beam_goes_ahead_of_gap(self):
        self.assertEqual(self.led(beside((4, 4, 1, 1), (90, 3, 1, 1)))[3], "c")
        self.assertEqual(self.led(beside((90, 3, 1, 1), (4, 4, 1, 1)))[3], "b")
        self.assertEqual(self.led(beside((4, -1, 1, 1), (90, 0, 1, 1)))[3], "c")

    def test_gap_goes_ahead_of_across(self):
        self.assertEqual(self.led(beside((9, 4, 1, 1), (8, 99, 1, 1)))[3], "c")
        self.assertEqual(self.led(beside((9, 0, 1, 1), (8, 3, 1, 9)))[3], "c")

    def test_across_last(self):
        self.assertEqual(self.led(beside((9, 9, 1, 1), (9, 8, 1, 1), (9, -6, 1, 1)))[3], "c")
        self.assertEqual(self.led(beside((9, 4, 1, 1), (9, 5, 1, 1)))[3], "b")

    def test_then_the_first_by_the_sheets_order(self):
        self.assertEqual(self.led(beside((9, 3, 1, 1), (9, 0, 1, 1), (9, 1, 9, 1)))[3], "b")
        sheet = (part("z", box=(9, 3, 1, 1)), part("a", box=(0, 0, 4, 4)), part("b", box=(9, 0, 1, 1)))
        self.assertEqual(nearest(sheet, "a", "right"), "z")
        self.assertEqual(self.led(beside((9, 9, 1, 1), (9, -6, 1, 1)))[3], "b")

    def test_order_of_numbers_above_nine(self):
        level = tuple(part(name, box=(9, 0, 1, 1)) for name in many_names(12))
        self.assertEqual(nearest((*level, part("x")), "x", "right"), "aa")
        shut = {name: "shut" for name in many_names(2)}
        self.assertEqual(nearest(with_words((*level, part("x")), shut), "x", "right"), "ac")

    def test_only_open_parts(self):
        sheet = beside((5, 0, 1, 1), (6, 0, 1, 1), (7, 0, 1, 1))
        for words, to in (({"b": "shut"}, "c"), ({"b": "hidden", "c": "shut"}, "d"),
                          ({"b": "hidden", "c": "shut", "d": "hidden"}, None)):
            self.assertEqual(nearest(with_words(sheet, words), "a", "right"), to)

    def test_only_the_same_level(self):
        inner = part("i", part("k", box=(4, 0, 1, 1)), box=(20, 0, 1, 1))
        sheet = (part("a", part("j", box=(5, 0, 1, 1)), box=(0, 0, 4, 4)), inner)
        self.assertEqual(nearest(sheet, "a", "right"), "i")
        self.assertIs(nearest(sheet, "k", "right"), None)
        self.assertIs(nearest(sheet, "k", "left"), None)
        self.assertIs(nearest(sheet, "j", "right"), None)

    def test_five_deep(self):
        for deep in range(1, 6):
            sheet = with_level(deep, (part("a"), part("b", box=(5, 0, 1, 1)), part("c", box=(0, 5, 1, 1))))
            self.assertEqual(nearest(sheet, "a", "right"), "b")
            self.assertEqual(nearest(sheet, "c", "up"), "a")
            self.assertEqual(nearest(sheet, "b", "down"), "c")
            self.assertIs(nearest(sheet, "b", "right"), None)

    def test_far_ones(self):
        great = GREATEST
        sheet = beside((great, 0, great, 1), (great - 1, 0, 1, 1), (-great, -great, 1, 1), (0, great, 1, 1))
        self.assertEqual(self.led(sheet), ["d", "e", "d", "c"])
        self.assertEqual(nearest(sheet, "c", "right"), "b")

    def test_a_level_of_forty_parts(self):
        fields = crossed(40)
        by_field = {field: name for name, field in fields.items()}
        sheet = tuple(part(name, box=(5 * x, 3 * y, 4, 2)) for name, (x, y) in fields.items())
        for name, (x, y) in fields.items():
            fields_there = [(x, y - 1), (x, y + 1), (x - 1, y), (x + 1, y)]
            self.assertEqual(self.led(sheet, name), [by_field.get(field) for field in fields_there])

    def test_ranks_and_heads_dont_count(self):
        sheet = (part("a"), part("b", box=(9, 0, 1, 1), rank=1, head="c"), part("c", box=(5, 0, 1, 1)))
        self.assertEqual(nearest(sheet, "a", "right"), "c")


class IntoAndOut(Asking):
    def test_into(self):
        told = {name: into(DEEP, name) for name in DEEP_NAMES}
        self.assertEqual(told, {"a": "ab", "ab": "abc", "abc": "abcd", "abcd": "abcde", "abcde": None,
                                "abcdef": None, "b": None, "ac": None, "abcdefgh": None, "c": "ca",
                                "ca": None, "cb": "cba", "cba": None, "cc": None})

    def test_out(self):
        told = {name: out_of(DEEP, name) for name in DEEP_NAMES}
        self.assertEqual(told, {"a": None, "ab": "a", "abc": "ab", "abcd": "abc", "abcde": "abcd",
                                "abcdef": "abcd", "b": "abc", "ac": "a", "abcdefgh": None, "c": None,
                                "ca": "c", "cb": "c", "cba": "cb", "cc": "c"})

    def test_into_behind_shut_and_hidden_ones(self):
        sheet = (part("a", part("d", part("x"), word="shut"), part("c", part("y"), word="hidden"),
                      part("b", rank=9), part("e", rank=1)),)
        self.assertEqual(into(sheet, "a"), "b")
        self.assertEqual(into(with_words(sheet, {"b": "shut"}), "a"), "e")
        self.assertIs(into(with_words(sheet, {"b": "shut", "e": "hidden"}), "a"), None)

    def test_into_goes_by_the_order_and_not_by_boxes(self):
        sheet = (part("a", part("z", box=(9, 9, 1, 1)), part("b")),)
        self.assertEqual(into(sheet, "a"), "z")

    def test_five_deep(self):
        sheet = buried(part("a"), 5)
        self.assertEqual([into(sheet, name) for name in ("zz", "zy", "zx", "zw", "a")],
                         ["zy", "zx", "zw", "a", None])
        self.assertEqual([out_of(sheet, name) for name in ("zz", "zy", "zx", "zw", "a")],
                         [None, "zz", "zy", "zx", "zw"])


class Opposite(Asking):
    def test_all_four(self):
        self.assertEqual([opposite(way) for way in SIDES], ["down", "up", "right", "left"])

    def test_other_texts(self):
        for way in ("on", "back", "into", "out", *OTHER_TEXTS):
            self.refused(NoKey, opposite, way)


class Goes(Asking):
    def test_all_eight_keys(self):
        sheet = (part("a", part("m", part("n"), part("o"), box=(0, 0, 2, 2)),
                      part("b", box=(0, -5, 1, 1)), part("c", box=(0, 5, 1, 1)),
                      part("d", box=(-5, 0, 1, 1)), part("e", box=(5, 0, 1, 1))), part("p", rank=1))
        self.assertEqual([goes(sheet, "m", key) for key in KEYS],
                         ["n", "a", "b", "c", "d", "e", "n", "a"])
        self.assertEqual([goes(sheet, "p", key) for key in KEYS],
                         ["a", "e", None, None, None, None, None, None])

    def test_on_and_back(self):
        for at, name in enumerate(DEEP_NAMES):
            self.assertEqual(goes(DEEP, name, "back"), DEEP_NAMES[at - 1])
            self.assertEqual(goes(DEEP, DEEP_NAMES[at - 1], "on"), name)


class Refusals(Asking):
    SHEET = (part("a", part("b"), word="shut"), part("c", part("d", word="hidden")))

    def asks(self):
        """Pairs of a way to ask and what is handed in behind the sheet and the name."""
        return ([(nearest, (way,)) for way in SIDES] + [(goes, (key,)) for key in KEYS]
                + [(into, ()), (out_of, ())])

    def test_no_part(self):
        for ask, more in self.asks():
            for sheet in ((), self.SHEET, DEEP):
                for name in ("x", "", "A", "up", "b ", "abcdefg"):
                    self.assertEqual(self.refused(NoPart, ask, sheet, name, *more).name, name)

    def test_not_open(self):
        for ask, more in self.asks():
            for name, why in (("a", ("shut", "a")), ("b", ("shut", "a")), ("d", ("hidden", "d"))):
                refusal = self.refused(NotOpen, ask, self.SHEET, name, *more)
                self.assertEqual(refusal.why, why)
                self.assertIs(type(refusal.why), tuple)

    def test_no_key_ahead_of_all_else(self):
        for name in ("a", "b", "c", "d", "x", ""):
            for key in OTHER_TEXTS:
                self.refused(NoKey, nearest, self.SHEET, name, key)
                self.refused(NoKey, goes, self.SHEET, name, key)
            for key in ("on", "back", "into", "out"):
                self.refused(NoKey, nearest, self.SHEET, name, key)


class ByChance(Asking):
    def test_as_a_plain_telling_has_it(self):
        for sheet in chance_sheets(13, 250, 16, free=0.85, room=5):
            self.compare(sheet)

    def test_in_one_level(self):
        chance = random.Random(14)
        for turn in range(60):
            level = tuple(part(name, box=chance_box(chance, 7), rank=chance.randint(0, 2))
                          for name in many_names(chance.randint(1, 14)))
            self.compare(level)
            self.compare(with_level(5, level))

    def compare(self, sheet):
        leads = plain_goes(sheet)
        self.assertEqual(list(leads), open_parts(sheet))
        for name, told in leads.items():
            self.assertEqual({key: goes(sheet, name, key) for key in KEYS}, told)
            self.assertEqual({way: nearest(sheet, name, way) for way in SIDES},
                             {way: told[way] for way in SIDES})
            self.assertEqual((into(sheet, name), out_of(sheet, name)), (told["into"], told["out"]))
            for to in told.values():
                self.assertTrue(to is None or why_not(sheet, to) is None)

    def test_one_of_the_four_comes_to_an_end(self):
        for sheet in chance_sheets(15, 150, 40, free=0.95, room=8):
            for name in open_parts(sheet):
                for way in SIDES:
                    row = [name]
                    while row[-1] is not None:
                        row.append(nearest(sheet, row[-1], way))
                        self.assertNotIn(row[-1], row[:-1])


if __name__ == "__main__":
    unittest.main()
