"""Ways from whose end the way opposite doesn't come back [2, 4, 18]."""

import random
import unittest

from focuswalk.boxes import lies
from focuswalk.sheets import part_of, place_of
from focuswalk.strays import strays
from focuswalk.ways import nearest, opposite
from tests.asking import Asking
from tests.plain import SIDES, plain_goes
from tests.samples import (DEEP, GREATEST, ONE_WAY, chance_box, chance_sheets, in_a_row, many_names,
                           part, renamed, with_level, with_words)

AGAINST = {"up": "down", "down": "up", "left": "right", "right": "left"}

# Boxes turned so that what lies right of another one comes to lie on this side.
TURNS = {
    "right": lambda left, top, wide, high: (left, top, wide, high),
    "left": lambda left, top, wide, high: (-left - wide, top, wide, high),
    "down": lambda left, top, wide, high: (top, left, high, wide),
    "up": lambda left, top, wide, high: (top, -left - wide, high, wide),
}

# Both lie as near to c, and a is ahead of b.
AS_NEAR = (part("a", box=(0, 0, 1, 1)), part("b", box=(0, 1, 1, 1)), part("c", box=(5, 0, 1, 2)))


def plain_strays(sheet):
    """The strays, from a table of where all keys lead."""
    leads = plain_goes(sheet)
    rows = [(name, way, leads[name][way]) for name in leads for way in SIDES]
    rows = [(name, way, to, leads[to][AGAINST[way]]) for name, way, to in rows if to is not None]
    return [row for row in rows if row[0] != row[3]]


class Strays(Asking):
    def test_no_open_part_and_one(self):
        self.assertEqual(strays(()), [])
        self.assertEqual(strays((part("a"),)), [])
        self.assertEqual(strays((part("a", part("b"), part("c"), word="shut"),)), [])
        self.assertEqual(strays(with_words(ONE_WAY, {"b": "hidden", "c": "shut"})), [])
        self.assertEqual(strays(with_words(ONE_WAY, {"a": "hidden", "b": "shut", "c": "shut"})), [])

    def test_none_of_several(self):
        self.assertEqual(strays(in_a_row("a", "b", "c")), [])
        self.assertEqual(strays(in_a_row(*many_names(40))), [])
        self.assertEqual(strays(DEEP), [])
        self.assertEqual(strays((part("a", part("b", part("c"))),)), [])

    def test_back_that_is_nearer(self):
        self.assertEqual(strays(ONE_WAY), [("a", "right", "c", "b")])
        self.assertEqual(strays(ONE_WAY[::-1]), [("a", "right", "c", "b")])

    def test_back_that_is_as_near_and_ahead(self):
        self.assertEqual(strays(AS_NEAR), [("b", "right", "c", "a")])
        self.assertEqual(strays((AS_NEAR[1], AS_NEAR[2], AS_NEAR[0])), [("a", "right", "c", "b")])

    def test_each_of_the_four(self):
        for way, turn in TURNS.items():
            sheet = tuple(part(name, box=turn(*box)) for name, box, *rest in ONE_WAY)
            self.assertEqual(strays(sheet), [("a", way, "c", "b")])

    def test_by_the_sheets_order_then_up_down_left_right(self):
        # About a lie four on which its ways come, and nearer to each of these one that overlaps a.
        boxes = {"r": (30, 0, 1, 10), "nr": (8, 8, 4, 1), "d": (0, 30, 10, 1), "nd": (1, 8, 1, 4),
                 "a": (0, 0, 10, 10),
                 "l": (-30, 0, 1, 10), "nl": (-2, 1, 4, 1), "u": (0, -30, 10, 1), "nu": (1, -2, 1, 4)}
        sheet = tuple(part(name, box=box) for name, box in boxes.items())
        told = strays(sheet)
        self.assertEqual(told, plain_strays(sheet))
        self.assertEqual([row for row in told if row[0] == "a"],
                         [("a", "up", "u", "nu"), ("a", "down", "d", "nd"),
                          ("a", "left", "l", "nl"), ("a", "right", "r", "nr")])
        order = [(place_of(sheet, name), SIDES.index(way)) for name, way, to, back in told]
        self.assertEqual(order, sorted(set(order)))
        self.assertGreater(len({row[0] for row in told}), 1)

    def test_ways_that_lead_to_none(self):
        for name, way, to, back in strays(ONE_WAY + (part("d", box=(0, 50, 1, 1)),)):
            self.assertNotIn(None, (name, way, to, back))
        self.assertIs(nearest(ONE_WAY, "a", "left"), None)
        self.assertNotIn("left", [row[1] for row in strays(ONE_WAY)])

    def test_on_back_into_and_out_are_left_out(self):
        # Into leads from a to b alone, so out of c one doesn't come back by it.
        sheet = (part("a", part("b"), part("c")), part("d", rank=1))
        self.assertEqual(strays(sheet), [])

    def test_five_deep(self):
        for deep in range(1, 6):
            self.assertEqual(strays(with_level(deep, ONE_WAY)), [("a", "right", "c", "b")])

    def test_levels_dont_mix(self):
        inner = renamed(ONE_WAY, "x")
        sheet = (part("p", *inner, word="hidden"), *ONE_WAY)
        self.assertEqual(strays(sheet), [("a", "right", "c", "b")])
        sheet = (part("p", *inner, box=(0, 0, 99, 99)), *ONE_WAY)
        self.assertEqual(strays(sheet), [("ax", "right", "cx", "bx"), ("a", "right", "c", "b")])

    def test_shut_and_hidden_ones_between(self):
        for word in ("shut", "hidden"):
            self.assertEqual(strays(with_words(ONE_WAY, {"b": word})), [])
            self.assertEqual(strays(with_words(ONE_WAY, {"c": word})), [])
            between = part("m", box=(15, 0, 1, 1), word=word)
            self.assertEqual(strays((between, *ONE_WAY)), [("a", "right", "c", "b")])
            self.assertEqual(strays((part("p", *ONE_WAY, word=word),)), [])

    def test_far_ones(self):
        great = GREATEST
        sheet = (part("a", box=(-great, 0, 1, 1)), part("b", box=(1 - great, 1, 1, 1)),
                 part("c", box=(great, 0, great, 2)))
        self.assertIn(("a", "right", "c", "b"), strays(sheet))

    def test_list_is_the_askers_own(self):
        self.own_list(strays, ONE_WAY)
        self.own_list(strays, ())
        for row in strays(ONE_WAY):
            self.assertIs(type(row), tuple)


class ByChance(Asking):
    def compare(self, sheet):
        told = strays(sheet)
        self.assertEqual(told, plain_strays(sheet))
        for name, way, to, back in told:
            box = part_of(sheet, to)[1]
            near = [lies(box, part_of(sheet, other)[1], opposite(way)) for other in (back, name)]
            self.assertLessEqual(near[0], near[1])
            if near[0] == near[1]:
                self.assertLess(place_of(sheet, back), place_of(sheet, name))
        return len(told)

    def test_as_a_plain_telling_has_it(self):
        many = [self.compare(sheet) for sheet in chance_sheets(20, 150, 16, free=0.85, room=5)]
        self.assertGreater(sum(many), 100)

    def test_in_one_level(self):
        chance = random.Random(21)
        many = []
        for turn in range(80):
            level = tuple(part(name, box=chance_box(chance, 7))
                          for name in many_names(chance.randint(2, 14)))
            many.append(self.compare(with_level(chance.randint(1, 5), level)))
        self.assertGreater(sum(many), 100)


if __name__ == "__main__":
    unittest.main()
