"""What is reached, layer by layer, what is unled and what is linked [2, 3, 15, 17]."""

import random
import unittest

from focuswalk.errors import NoPart, NotOpen
from focuswalk.layers import is_linked, layers, unled
from focuswalk.rows import parted
from focuswalk.views import open_parts
from tests.asking import Asking
from tests.plain import SIDES, WAYS, plain_far, plain_goes
from tests.samples import (DEEP, DEEP_NAMES, ONE_WAY, branching, chance_box, chance_sheets, in_a_row,
                           many_names, part, with_chains, with_words)


class Layers(Asking):
    def test_one_part(self):
        self.assertEqual(layers((part("a"),), "a"), [["a"]])

    def test_along_a_row(self):
        sheet = in_a_row("c", "a", "b", "d")
        self.assertEqual(layers(sheet, "c"), [["c"], ["a"], ["b"], ["d"]])
        self.assertEqual(layers(sheet, "b"), [["b"], ["a", "d"], ["c"]])

    def test_by_the_sheets_order_within_a_layer(self):
        sheet = (part("d", box=(0, 5, 1, 1)), part("c", box=(5, 0, 1, 1)), part("a", part("i"), part("j")),
                 part("b", box=(0, -5, 1, 1)), part("e", box=(-5, 0, 1, 1)))
        self.assertEqual(layers(sheet, "a"), [["a"], ["d", "c", "i", "b", "e"]])

    def test_into_and_out(self):
        sheet = (part("a", part("b", part("c"), part("d", box=(5, 0, 1, 1)))),)
        self.assertEqual(layers(sheet, "a"), [["a"], ["b"], ["c"], ["d"]])
        self.assertEqual(layers(sheet, "d"), [["d"], ["b", "c"], ["a"]])

    def test_on_and_back_are_no_ways(self):
        self.assertEqual(layers((part("a"), part("b")), "a"), [["a"]])
        self.assertEqual(layers(DEEP, "cc"), [["cc"], ["c"], ["ca"]])

    def test_parts_that_arent_reached(self):
        sheet = (part("a", part("b"), part("c")), part("d"))
        self.assertEqual(layers(sheet, "a"), [["a"], ["b"]])
        self.assertEqual(layers(sheet, "c"), [["c"], ["a"], ["b"]])
        self.assertEqual(layers(sheet, "d"), [["d"]])

    def test_parts_that_arent_open(self):
        sheet = with_words(in_a_row("a", "b", "c"), {"b": "shut"})
        self.assertEqual(layers(sheet, "a"), [["a"], ["c"]])

    def test_forty_parts(self):
        names = many_names(40)
        self.assertEqual(layers(in_a_row(*names), names[0]), [[name] for name in names])
        self.assertEqual(layers(branching(40), "aa"), [["aa"], ["ab"], ["ac"], ["ad"], ["ae"]])

    def test_lists_are_the_askers_own(self):
        sheet = in_a_row("a", "b", "c")
        self.own_list(layers, sheet, "b")
        told = layers(sheet, "b")
        for row in told:
            self.assertIs(type(row), list)
            row.append("zz")
        self.assertEqual(told, [["b", "zz"], ["a", "c", "zz"]])
        self.assertEqual(layers(sheet, "b"), [["b"], ["a", "c"]])

    def test_no_part_and_not_open(self):
        sheet = (part("a", part("b"), word="shut"), part("c"))
        for name in ("x", "", "A"):
            self.assertEqual(self.refused(NoPart, layers, sheet, name).name, name)
        for name in ("a", "b"):
            self.assertEqual(self.refused(NotOpen, layers, sheet, name).why, ("shut", "a"))


class Unled(Asking):
    def test_no_open_part(self):
        self.assertEqual(unled(()), [])
        self.assertEqual(unled((part("a", part("b"), word="hidden"),)), [])

    def test_none(self):
        self.assertEqual(unled(in_a_row("a", "b")), [])
        self.assertEqual(unled((part("a", part("b")),)), [])

    def test_one_that_alone_is_open(self):
        self.assertEqual(unled((part("a"), part("b", word="shut"))), ["a"])

    def test_some_by_the_sheets_order(self):
        sheet = (part("c", part("z"), part("d"), part("b")), part("a"))
        self.assertEqual(unled(sheet), ["d", "b", "a"])
        self.assertEqual(unled(ONE_WAY), ["a"])
        self.assertEqual(unled(DEEP), ["abcdef", "b", "ac", "abcdefgh", "cc"])

    def test_all(self):
        self.assertEqual(unled((part("c"), part("b"), part("a"))), ["c", "b", "a"])

    def test_list_is_the_askers_own(self):
        self.own_list(unled, DEEP)
        self.own_list(unled, ())


class Linked(Asking):
    def test_levels_with_one_open_part_or_none(self):
        sheet = (part("a", part("b"), part("c", word="shut")), part("d", part("e"), part("f"), word="shut"),
                 part("g", part("h", word="hidden"), part("i", word="shut"), word="hidden"))
        for name in "bcefhiadg":
            self.assertIs(is_linked(sheet, name), True)

    def test_several(self):
        self.assertIs(is_linked(in_a_row("a", "b", "c"), "b"), True)
        self.assertIs(is_linked((part("a"), part("b")), "a"), False)
        self.assertIs(is_linked(ONE_WAY, "a"), False)
        self.assertIs(is_linked(ONE_WAY, "c"), False)
        self.assertIs(is_linked(ONE_WAY[1:], "c"), True)

    def test_of_a_part_that_isnt_open(self):
        sheet = in_a_row("a", "b", "c") + (part("d"),)
        self.assertIs(is_linked(sheet, "d"), False)
        for word in ("shut", "hidden"):
            self.assertIs(is_linked(with_words(sheet, {"d": word}), "d"), True)
            self.assertIs(is_linked(with_words(sheet, {"b": word}), "b"), False)

    def test_one_sheet_with_both(self):
        sheet = (part("a", part("b"), part("c")), part("d", *in_a_row("e", "f"), box=(9, 0, 1, 1)))
        self.assertEqual([is_linked(sheet, name) for name in "abcdef"],
                         [True, False, False, True, True, True])

    def test_by_the_four_alone(self):
        # From b one comes to c by out and into, but by none of the four.
        sheet = (part("a", part("c"), part("b")),)
        self.assertEqual(layers(sheet, "b"), [["b"], ["a"], ["c"]])
        self.assertIs(is_linked(sheet, "b"), False)

    def test_forty_in_a_level(self):
        names = many_names(40)
        self.assertIs(is_linked(in_a_row(*names), names[7]), True)
        self.assertIs(is_linked(tuple(part(name) for name in names), names[7]), False)

    def test_no_part(self):
        for sheet in ((), DEEP):
            for name in ("x", "", "A"):
                self.assertEqual(self.refused(NoPart, is_linked, sheet, name).name, name)


class ByChance(Asking):
    def compare(self, sheet):
        leads = plain_goes(sheet)
        far = plain_far(leads, WAYS)
        for name in leads:
            told = layers(sheet, name)
            for many, row in enumerate(told):
                self.assertEqual(row, [other for other in leads if far.get((name, other)) == many])
            self.assertNotIn([], told)
            reached = [other for other in leads if (name, other) in far]
            self.assertEqual(sum(map(len, told)), len(reached))
        ends = {to[way] for to in leads.values() for way in WAYS}
        self.assertEqual(unled(sheet), [name for name in leads if name not in ends])
        return leads

    def linked(self, sheet, leads):
        """Each level is told as plain ways have it, and where all are linked nothing is parted."""
        far = plain_far(leads, SIDES)
        levels = {}
        for chain in with_chains(sheet):
            levels.setdefault(tuple(one[0] for one in chain[:-1]), []).append(chain[-1][0])
        told = []
        for names in levels.values():
            free = [name for name in names if name in leads]
            linked = all((one, other) in far for one in free for other in free)
            told.append(linked)
            for name in names:
                self.assertIs(is_linked(sheet, name), linked)
        if all(told):
            self.assertIs(parted(sheet), None)
        return told

    def test_as_a_plain_telling_has_it(self):
        told = []
        for sheet in chance_sheets(16, 200, 14, free=0.85, room=5):
            told += self.linked(sheet, self.compare(sheet))
        self.assertGreater(min(told.count(True), told.count(False)), 20)

    def test_in_one_level(self):
        chance = random.Random(17)
        for turn in range(60):
            sheet = tuple(part(name, box=chance_box(chance, 6))
                          for name in many_names(chance.randint(2, 12)))
            self.linked(sheet, self.compare(sheet))

    def test_all_levels_linked(self):
        for many in range(1, 41):
            sheet = in_a_row(*many_names(many))
            self.assertIs(parted(sheet), None)
            self.assertEqual(open_parts(sheet), many_names(many))


if __name__ == "__main__":
    unittest.main()
