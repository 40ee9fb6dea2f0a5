"""How two sheets differ, and where somebody stands behind a change [2, 3, 4, 22, 23]."""

import random
import unittest

from focuswalk.changes import differences, stand_behind
from focuswalk.deeds import done
from focuswalk.errors import FocusError, NoPart, NotOpen
from focuswalk.sheets import around, level_of
from focuswalk.turned import mirrored, shifted
from tests.asking import Asking
from tests.plain import KEYS, SIDES, plain_goes, plain_stand
from tests.samples import (DEEP, DEEP_NAMES, ONE_WAY, branching, chance_deed, chance_sheets, flat, in_a_row,
                           part, with_words)

ALL_FREE = (part("p", part("a"), part("b", box=(3, 0, 1, 1)), part("c", box=(6, 0, 1, 1))),
            part("q", part("d"), part("e", box=(3, 0, 1, 1)), box=(9, 0, 1, 1)))


def plain_differences(sheet, other):
    """The differences of two tables of where all keys lead."""
    before, after = plain_goes(sheet), plain_goes(other)
    return [(name, key, before[name][key], after[name][key]) for name in after if name in before
            for key in KEYS if before[name][key] != after[name][key]]


class Differences(Asking):
    def test_of_a_sheet_and_itself(self):
        for sheet in ((), DEEP, ONE_WAY, flat(40), branching(40), *chance_sheets(30, 30, 12)):
            self.assertEqual(differences(sheet, sheet), [])

    def test_no_part_open_in_both(self):
        self.assertEqual(differences((), DEEP), [])
        self.assertEqual(differences(DEEP, ()), [])
        self.assertEqual(differences(in_a_row("a", "b"), in_a_row("c", "d")), [])
        self.assertEqual(differences(in_a_row("a", "b"), with_words(in_a_row("a", "b"), {"a": "shut", "b": "hidden"})),
                         [])

    def test_one_shut(self):
        sheet = in_a_row("a", "b", "c")
        self.assertEqual(differences(sheet, with_words(sheet, {"b": "shut"})),
                         [("a", "on", "b", "c"), ("a", "right", "b", "c"),
                          ("c", "back", "b", "a"), ("c", "left", "b", "a")])
        self.assertEqual(differences(with_words(sheet, {"b": "shut"}), sheet),
                         [("a", "on", "c", "b"), ("a", "right", "c", "b"),
                          ("c", "back", "a", "b"), ("c", "left", "a", "b")])

    def test_was_and_now_none(self):
        sheet = in_a_row("a", "b")
        shut = with_words(sheet, {"b": "shut"})
        self.assertEqual(differences(sheet, shut),
                         [("a", "on", "b", "a"), ("a", "back", "b", "a"), ("a", "right", "b", None)])
        self.assertEqual(differences(shut, sheet),
                         [("a", "on", "a", "b"), ("a", "back", "a", "b"), ("a", "right", None, "b")])

    def test_by_the_second_ones_order(self):
        sheet = in_a_row("a", "b", "c")
        other = (sheet[2], sheet[0], sheet[1])
        told = differences(sheet, other)
        self.assertEqual(told, [])
        told = differences(sheet, mirrored(other))
        self.assertEqual(told, [("c", "left", "b", None), ("c", "right", None, "b"),
                                ("a", "left", None, "b"), ("a", "right", "b", None),
                                ("b", "left", "a", "c"), ("b", "right", "c", "a")])

    def test_all_eight_keys_in_order(self):
        sheet = (part("x", part("m", part("i"), part("j"), box=(0, 0, 2, 2)), part("b", box=(0, -5, 1, 1)),
                      part("c", box=(0, 5, 1, 1)), part("d", box=(-5, 0, 1, 1)), part("e", box=(5, 0, 1, 1))),)
        other = (part("k"), part("m", part("j"), part("i"), rank=1),)
        self.assertEqual([row for row in differences(sheet, other) if row[0] == "m"],
                         [("m", "on", "i", "k"), ("m", "back", "x", "i"), ("m", "up", "b", None),
                          ("m", "down", "c", None), ("m", "left", "d", None), ("m", "right", "e", None),
                          ("m", "into", "i", "j"), ("m", "out", "x", None)])

    def test_parts_that_stand_elsewhere(self):
        sheet = (part("a", part("b")), part("c"))
        other = (part("a"), part("c", part("b")))
        self.assertEqual(differences(sheet, other),
                         [("a", "on", "b", "c"), ("a", "back", "c", "b"), ("a", "into", "b", None),
                          ("c", "on", "a", "b"), ("c", "back", "b", "a"), ("c", "into", None, "b"),
                          ("b", "on", "c", "a"), ("b", "back", "a", "c"), ("b", "out", "a", "c")])

    def test_shifted_sheets(self):
        self.assertEqual(differences(ALL_FREE, shifted(ALL_FREE, 4, -9)), [])

    def test_list_is_the_askers_own(self):
        sheet = in_a_row("a", "b", "c")
        self.own_list(differences, sheet, with_words(sheet, {"b": "shut"}))
        self.own_list(differences, sheet, sheet)
        for row in differences(sheet, mirrored(sheet)):
            self.assertIs(type(row), tuple)

    def test_any_two_sheets_by_chance(self):
        told = 0
        sheets = chance_sheets(31, 160, 12, free=0.85, room=5)
        for sheet, other in zip(sheets, sheets[1:]):
            told += len(differences(sheet, other))
            self.assertEqual(differences(sheet, other), plain_differences(sheet, other))
        self.assertGreater(told, 1000)


def allowed(sheet, other, deed):
    """The pairs (name, key) in which a deed may make a sheet and the other one differ."""
    kind = deed[0]
    where, name = (other, deed[3][0]) if kind == "put" else (sheet, deed[1])
    level = level_of(where, name)
    outer = around(where, name)[-1:]
    turning = {(one, key) for one in plain_goes(sheet) for key in ("on", "back")}
    four = {(one, key) for one in level for key in SIDES}
    if kind == "head":
        return set()
    if kind == "rank":
        return turning
    if kind == "box":
        return four
    return turning | four | {(one, "into") for one in outer}


class BehindADeed(Asking):
    def differ(self, sheet, deed):
        other = done(sheet, deed)
        told = differences(sheet, other)
        self.assertEqual(told, plain_differences(sheet, other))
        self.assertLessEqual({row[:2] for row in told}, allowed(sheet, other, deed), deed)
        return told

    def test_box(self):
        self.assertEqual(self.differ(ALL_FREE, ("box", "b", (9, 0, 1, 1))),
                         [("a", "right", "b", "c"), ("b", "left", "a", "c"), ("b", "right", "c", None),
                          ("c", "left", "b", "a"), ("c", "right", None, "b")])
        self.assertEqual(self.differ(ALL_FREE, ("box", "p", (0, 0, 2, 2))), [])

    def test_rank(self):
        self.assertEqual(self.differ(ALL_FREE, ("rank", "b", 1)),
                         [("p", "back", "e", "b"), ("a", "on", "b", "c"), ("b", "on", "c", "p"),
                          ("b", "back", "a", "e"), ("c", "back", "b", "a"), ("e", "on", "p", "b")])

    def test_head(self):
        for name, head in (("b", "a"), ("b", "e"), ("q", "a"), ("a", "q"), ("a", None)):
            self.assertEqual(self.differ(ALL_FREE, ("head", name, head)), [])

    def test_word(self):
        self.assertEqual(self.differ(ALL_FREE, ("word", "a", "hidden")),
                         [("p", "on", "a", "b"), ("p", "into", "a", "b"), ("b", "back", "a", "p"),
                          ("b", "left", "a", None)])
        self.assertEqual(self.differ(ALL_FREE, ("word", "q", "shut")),
                         [("p", "back", "e", "c"), ("p", "right", "q", None), ("c", "on", "q", "p")])
        self.assertEqual(self.differ(with_words(ALL_FREE, {"q": "shut"}), ("word", "q", "hidden")), [])
        self.assertEqual(self.differ(with_words(ALL_FREE, {"q": "shut"}), ("word", "d", "hidden")), [])

    def test_put(self):
        self.assertEqual(self.differ(ALL_FREE, ("put", "q", 0, part("x", part("y"), box=(1, 0, 1, 1)))),
                         [("q", "on", "d", "x"), ("q", "into", "d", "x"), ("d", "back", "q", "y"),
                          ("d", "right", "e", "x"), ("e", "left", "d", "x")])
        self.assertEqual(self.differ(ALL_FREE, ("put", "q", 0, part("x", word="shut"))), [])

    def test_take(self):
        self.assertEqual(self.differ(ALL_FREE, ("take", "d")),
                         [("q", "on", "d", "e"), ("q", "into", "d", "e"), ("e", "back", "d", "q"),
                          ("e", "left", "d", None)])
        self.assertEqual(self.differ(ALL_FREE, ("take", "p")),
                         [("q", "back", "c", "e"), ("q", "left", "p", None), ("e", "on", "p", "q")])

    def test_by_chance(self):
        chance = random.Random(32)
        counts = {}
        for sheet in chance_sheets(33, 220, 11, free=0.85, room=5):
            for turn in range(5):
                deed = chance_deed(chance, sheet)
                try:
                    done(sheet, deed)
                except FocusError:
                    continue
                counts[deed[0]] = counts.get(deed[0], 0) + len(self.differ(sheet, deed))
        self.assertEqual(counts.pop("head"), 0)
        self.assertGreater(min(counts.values()), 50, counts)
        self.assertEqual(len(counts), 5)


class StandBehind(Asking):
    def test_still_open(self):
        for name in DEEP_NAMES:
            self.assertEqual(stand_behind(DEEP, DEEP, name), name)
        sheet = in_a_row("a", "b", "c")
        self.assertEqual(stand_behind(sheet, with_words(sheet, {"a": "shut"}), "b"), "b")
        self.assertEqual(stand_behind(sheet, mirrored(sheet[::-1]), "b"), "b")
        # Put elsewhere it is still the same one, by name.
        self.assertEqual(stand_behind(sheet, (part("x", part("b")),), "b"), "b")

    def test_the_next_one_that_is_open(self):
        sheet = in_a_row("a", "b", "c", "d")
        for words, stand in (({"b": "shut"}, "c"), ({"b": "hidden", "c": "shut"}, "d"),
                             ({"b": "hidden", "c": "shut", "d": "shut"}, "a")):
            self.assertEqual(stand_behind(sheet, with_words(sheet, words), "b"), stand)
        self.assertEqual(stand_behind(sheet, sheet[:1] + sheet[3:], "b"), "d")

    def test_coming_round(self):
        sheet = in_a_row("a", "b", "c", "d")
        self.assertEqual(stand_behind(sheet, with_words(sheet, {"d": "shut"}), "d"), "a")
        self.assertEqual(stand_behind(sheet, with_words(sheet, {"d": "shut", "a": "shut"}), "d"), "b")
        self.assertEqual(stand_behind(sheet, sheet[:2], "c"), "a")

    def test_by_the_old_ones_walk_and_not_the_new_ones(self):
        sheet = (part("a", rank=2), part("b", rank=1), part("c"), part("d", rank=3))
        other = (part("d"), part("c", rank=1), part("a"))
        self.assertEqual(stand_behind(sheet, other, "b"), "a")
        self.assertEqual(stand_behind(sheet, other[:2], "b"), "d")
        self.assertEqual(stand_behind(sheet, other[1:2], "b"), "c")

    def test_none_of_the_old_ones_is_open(self):
        sheet = in_a_row("a", "b")
        other = (part("x"), part("y", rank=1), part("a", word="shut"))
        self.assertEqual(stand_behind(sheet, other, "a"), "y")
        self.assertEqual(stand_behind(sheet, other, "b"), "y")

    def test_an_old_part_that_wasnt_open_doesnt_count(self):
        sheet = (part("a"), part("b", word="shut"), part("c"))
        other = (part("z"), part("b"), part("c"))
        self.assertEqual(stand_behind(sheet, other, "a"), "c")
        self.assertEqual(stand_behind(sheet, other[:2], "a"), "z")

    def test_under_a_part_around_it(self):
        for name in ("abcd", "abcde", "abcdef"):
            self.assertEqual(stand_behind(DEEP, with_words(DEEP, {"abcd": "shut"}), name), "b")
        self.assertEqual(stand_behind(DEEP, with_words(DEEP, {"a": "hidden"}), "abc"), "abcdefgh")
        self.assertEqual(stand_behind(DEEP, DEEP[:2], "cba"), "a")

    def test_from_nowhere(self):
        self.assertEqual(stand_behind((), in_a_row("a", "b"), None), "a")
        self.assertEqual(stand_behind(DEEP, (part("a"), part("b", rank=1)), None), "b")
        self.assertIs(stand_behind(DEEP, (), None), None)
        self.assertIs(stand_behind((), (part("a", part("b"), word="shut"),), None), None)

    def test_none_is_open(self):
        for other in ((), (part("a", word="hidden"),), with_words(DEEP, {"a": "shut", "abcdefgh": "hidden", "c": "shut"})):
            for name in DEEP_NAMES:
                self.assertIs(stand_behind(DEEP, other, name), None)

    def test_not_open_in_the_first_sheet(self):
        sheet = (part("a", part("b"), word="shut"), part("c", part("d", word="hidden")))
        for name, why in (("a", ("shut", "a")), ("b", ("shut", "a")), ("d", ("hidden", "d"))):
            for other in (sheet, (), (part(name),)):
                self.assertEqual(self.refused(NotOpen, stand_behind, sheet, other, name).why, why)

    def test_no_part(self):
        for name in ("x", "", "A", "-"):
            for sheet in ((), DEEP):
                self.assertEqual(self.refused(NoPart, stand_behind, sheet, (part("x"),), name).name, name)

    def test_by_chance(self):
        chance = random.Random(34)
        moved = 0
        for sheet in chance_sheets(35, 200, 12, free=0.8):
            for turn in range(5):
                try:
                    other = done(sheet, chance_deed(chance, sheet))
                except FocusError:
                    continue
                for name in [None, *plain_goes(sheet)]:
                    stand = stand_behind(sheet, other, name)
                    self.assertEqual(stand, plain_stand(sheet, other, name))
                    moved += stand != name
                sheet = other
        sheets = chance_sheets(36, 120, 9, free=0.6)
        for sheet, other in zip(sheets, sheets[1:]):
            for name in [None, *plain_goes(sheet)]:
                self.assertEqual(stand_behind(sheet, other, name), plain_stand(sheet, other, name))
        self.assertGreater(moved, 100)


if __name__ == "__main__":
    unittest.main()
