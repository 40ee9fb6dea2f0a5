"""Rows of ways, and what is parted [2, 3, 4, 16]."""

import random
import unittest

from focuswalk.errors import NoPart, NotOpen, NoWay
from focuswalk.rows import parted, row_to
from focuswalk.views import open_parts
from focuswalk.ways import goes
from tests.asking import Asking
from tests.plain import WAYS, plain_far, plain_goes
from tests.samples import DEEP, chance_box, chance_sheets, in_a_row, many_names, part, with_words


class Rows(Asking):
    def followed(self, sheet, one, other):
        """The row from one to other, which comes there by ways alone."""
        row = row_to(sheet, one, other)
        self.assertIs(type(row), list)
        name = one
        for way in row:
            self.assertIn(way, WAYS)
            name = goes(sheet, name, way)
        self.assertEqual(name, other)
        return row

    def closed(self, sheet, one, other, names):
        """The list has the one and not the other, and no way leads out of it."""
        self.assertIs(type(names), list)
        self.assertIn(one, names)
        self.assertNotIn(other, names)
        self.assertEqual(names, [name for name in open_parts(sheet) if name in names])
        for name in names:
            for way in WAYS:
                self.assertIn(goes(sheet, name, way), [None, *names])

    def apart(self, sheet, one, other):
        """The list with which a row from one to other is refused."""
        names = self.refused(NoWay, row_to, sheet, one, other).names
        self.closed(sheet, one, other, names)
        return names


class RowTo(Rows):
    def test_to_itself(self):
        self.assertEqual(row_to((part("a"),), "a", "a"), [])
        self.assertEqual(row_to(DEEP, "b", "b"), [])
        self.assertEqual(row_to(in_a_row("a", "b"), "b", "b"), [])

    def test_along_a_row(self):
        sheet = in_a_row("a", "b", "c", "d")
        self.assertEqual(row_to(sheet, "a", "d"), ["right"] * 3)
        self.assertEqual(row_to(sheet, "d", "b"), ["left"] * 2)

    def test_each_way(self):
        sheet = (part("a", part("i")), part("b", box=(0, -5, 1, 1)), part("c", box=(0, 5, 1, 1)),
                 part("d", box=(-5, 0, 1, 1)), part("e", box=(5, 0, 1, 1)))
        self.assertEqual([row_to(sheet, "a", name) for name in "bcdei"],
                         [["up"], ["down"], ["left"], ["right"], ["into"]])
        self.assertEqual(row_to(sheet, "i", "a"), ["out"])
        self.assertEqual(row_to(sheet, "i", "e"), ["out", "right"])

    def test_as_few_as_can_be(self):
        # By right it is three to d, by out and into but two.
        inner = (part("d", box=(9, 0, 1, 1)), part("a"), part("b", box=(3, 0, 1, 1)),
                 part("c", box=(6, 0, 1, 1)))
        self.assertEqual(row_to((part("x", *inner),), "a", "d"), ["out", "into"])
        self.assertEqual(row_to(inner, "a", "d"), ["right"] * 3)

    def test_through_five_levels(self):
        sheet = (part("a", part("b", part("c", part("d", part("e"))))),
                 part("p", part("q", part("r", part("s", part("t")))), box=(5, 0, 1, 1)))
        self.assertEqual(row_to(sheet, "e", "t"), ["out"] * 4 + ["right"] + ["into"] * 4)
        self.assertEqual(row_to(sheet, "t", "e"), ["out"] * 4 + ["left"] + ["into"] * 4)

    def test_forty_parts(self):
        names = many_names(40)
        self.assertEqual(row_to(in_a_row(*names), names[0], names[39]), ["right"] * 39)

    def test_on_and_back_are_no_ways(self):
        sheet = (part("a"), part("b"))
        self.assertEqual(self.apart(sheet, "a", "b"), ["a"])
        self.assertEqual(self.apart(sheet, "b", "a"), ["b"])

    def test_no_way(self):
        sheet = (part("p", part("q"), part("r")), part("s", box=(5, 0, 1, 1)))
        self.assertEqual(self.followed(sheet, "r", "q"), ["out", "into"])
        self.apart(sheet, "q", "r")
        self.apart(sheet, "p", "r")
        self.apart(sheet, "s", "r")

    def test_no_way_past_parts_that_arent_open(self):
        sheet = (part("a", part("b")), part("c", box=(5, 0, 1, 1)), part("d", box=(0, 0, 3, 9)))
        self.followed(sheet, "b", "c")
        self.assertEqual(row_to(sheet, "a", "d"), ["right", "left"])
        self.apart(with_words(sheet, {"c": "shut"}), "a", "d")

    def test_lists_are_the_askers_own(self):
        sheet = (*in_a_row("a", "b", "c"), part("d"))
        self.own_list(row_to, sheet, "a", "c")
        self.own_list(row_to, sheet, "a", "a")
        first = self.refused(NoWay, row_to, sheet, "a", "d").names
        kept = list(first)
        first.clear()
        self.assertEqual(self.refused(NoWay, row_to, sheet, "a", "d").names, kept)


class Refusals(Asking):
    SHEET = (part("a", part("b"), word="shut"), part("c", part("d", word="hidden")), part("e"))

    def test_no_part_of_one_then_of_other(self):
        self.assertEqual(self.refused(NoPart, row_to, self.SHEET, "x", "y").name, "x")
        self.assertEqual(self.refused(NoPart, row_to, self.SHEET, "x", "x").name, "x")
        for one in ("a", "b", "c", "d", "e"):
            self.assertEqual(self.refused(NoPart, row_to, self.SHEET, one, "y").name, "y")
            self.assertEqual(self.refused(NoPart, row_to, self.SHEET, "x", one).name, "x")
        self.assertEqual(self.refused(NoPart, row_to, (), "a", "b").name, "a")

    def test_not_open_of_one_then_of_other(self):
        self.assertEqual(self.refused(NotOpen, row_to, self.SHEET, "b", "d").why, ("shut", "a"))
        self.assertEqual(self.refused(NotOpen, row_to, self.SHEET, "d", "b").why, ("hidden", "d"))
        self.assertEqual(self.refused(NotOpen, row_to, self.SHEET, "b", "c").why, ("shut", "a"))
        self.assertEqual(self.refused(NotOpen, row_to, self.SHEET, "c", "d").why, ("hidden", "d"))
        self.assertEqual(self.refused(NotOpen, row_to, self.SHEET, "a", "a").why, ("shut", "a"))


class Parted(Rows):
    def parts_apart(self, sheet):
        told = parted(sheet)
        self.assertIs(type(told), tuple)
        one, other, names = told
        self.closed(sheet, one, other, names)
        self.apart(sheet, one, other)
        return told

    def test_no_open_part_and_one(self):
        for sheet in ((), (part("a", word="shut"),), (part("a"),),
                      (part("a", part("b", word="shut")), part("c", part("d"), word="hidden"))):
            self.assertIs(parted(sheet), None)

    def test_none(self):
        self.assertIs(parted(in_a_row("a", "b", "c")), None)
        self.assertIs(parted((part("a", part("b", part("c"))),)), None)
        self.assertIs(parted(in_a_row(*many_names(40))), None)

    def test_a_level_that_isnt_linked_may_hang_together(self):
        # To a leads none of the four, but from b and c one comes to it by out and into.
        inner = (part("a", box=(0, 0, 10, 2)), part("b", box=(5, 0, 6, 4)), part("c", box=(20, 0, 1, 1)))
        sheet = (part("p", *inner),)
        self.assertIs(parted(sheet), None)
        for one in "pabc":
            for other in "pabc":
                self.followed(sheet, one, other)
        self.assertEqual(self.parts_apart(inner)[1], "a")

    def test_parted_one_way_alone(self):
        sheet = (part("p", part("q"), part("r")),)
        self.assertEqual(self.parts_apart(sheet)[1], "r")

    def test_parted_both_ways(self):
        self.parts_apart((part("a"), part("b")))
        self.parts_apart(DEEP)
        self.parts_apart(tuple(part(name) for name in many_names(40)))

    def test_the_last_one_alone(self):
        self.parts_apart((*in_a_row("a", "b", "c", "d"), part("e", box=(0, 0, 99, 2))))

    def test_list_is_the_askers_own(self):
        sheet = (part("a"), part("b"))
        first = parted(sheet)
        kept = (*first[:2], list(first[2]))
        first[2].append("b")
        self.assertEqual(parted(sheet), kept)


class ByChance(Rows):
    def compare(self, sheet):
        """How many rows there are, and how many there aren't."""
        leads = plain_goes(sheet)
        far = plain_far(leads, WAYS)
        for one in leads:
            for other in leads:
                if (one, other) in far:
                    self.assertEqual(len(self.followed(sheet, one, other)), far[one, other])
                else:
                    self.apart(sheet, one, other)
        told = parted(sheet)
        if len(far) == len(leads) ** 2:
            self.assertIs(told, None)
        else:
            self.assertNotIn(told[:2], far)
            self.closed(sheet, *told)
        return told is None

    def test_as_a_plain_telling_has_it(self):
        told = [self.compare(sheet) for sheet in chance_sheets(18, 120, 10, free=0.9, room=5)]
        self.assertGreater(min(told.count(True), told.count(False)), 10)

    def test_in_one_level(self):
        chance = random.Random(19)
        told = []
        for turn in range(60):
            told.append(self.compare(tuple(part(name, box=chance_box(chance, 4))
                                           for name in many_names(chance.randint(2, 9)))))
        self.assertGreater(min(told.count(True), told.count(False)), 5)


if __name__ == "__main__":
    unittest.main()
