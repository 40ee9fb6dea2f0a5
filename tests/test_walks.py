"""The walk, and on and back [2, 3, 4, 10, 11]."""

import unittest

from focuswalk.errors import NoPart, NotOpen
from focuswalk.views import why_not
from focuswalk.walks import back_from, on_from, walk
from tests.asking import Asking
from tests.samples import (DEEP, DEEP_NAMES, GREATEST, chance_sheets, flat, many_names, part,
                           with_chains, with_words)


class Walk(Asking):
    def test_no_open_part(self):
        for sheet in ((), (part("a", word="shut"),), (part("a", part("b"), word="hidden"),)):
            self.assertEqual(walk(sheet), [])

    def test_one_open_part(self):
        self.assertEqual(walk((part("a"),)), ["a"])
        self.assertEqual(walk((part("a", rank=3), part("b", word="shut"))), ["a"])

    def test_without_ranks_by_the_sheets_order(self):
        self.assertEqual(walk(DEEP), DEEP_NAMES)
        self.assertEqual(walk(flat(40)), many_names(40))
        self.assertEqual(walk((part("b"), part("a"), part("c"))), ["b", "a", "c"])

    def test_ranks_above_nought_first(self):
        sheet = (part("a"), part("b", rank=2), part("c"), part("d", rank=1), part("e", rank=3))
        self.assertEqual(walk(sheet), ["d", "b", "e", "a", "c"])

    def test_one_rank_by_the_sheets_order(self):
        sheet = (part("f", part("z", rank=2), rank=5), part("e", rank=2), part("d", rank=5),
                 part("c", part("y", part("x", rank=2)), rank=2), part("b"))
        self.assertEqual(walk(sheet), ["z", "e", "c", "x", "f", "d", "y", "b"])

    def test_rank_of_an_outer_part_says_nothing_of_those_within(self):
        sheet = (part("a", part("b"), rank=1), part("c", part("d", rank=1), rank=2))
        self.assertEqual(walk(sheet), ["a", "d", "c", "b"])

    def test_great_ranks(self):
        sheet = (part("a", rank=GREATEST), part("b", rank=GREATEST - 1), part("c", rank=10),
                 part("d", rank=9), part("e"), part("f", rank=GREATEST))
        self.assertEqual(walk(sheet), ["d", "c", "b", "a", "f", "e"])

    def test_forty_of_one_rank_and_of_falling_ranks(self):
        names = many_names(40)
        alike = tuple(part(name, rank=7) for name in names)
        self.assertEqual(walk(alike), names)
        falling = tuple(part(name, rank=40 - at) for at, name in enumerate(names))
        self.assertEqual(walk(falling), names[::-1])

    def test_only_open_ones(self):
        sheet = with_words((part("s", part("t", rank=1)), part("u", rank=1), *DEEP),
                           {"s": "shut", "u": "hidden", "abc": "shut", "cb": "hidden"})
        self.assertEqual(walk(sheet), ["a", "ab", "ac", "abcdefgh", "c", "ca", "cc"])

    def test_list_is_the_askers_own(self):
        self.own_list(walk, DEEP)
        self.own_list(walk, ())


class OnAndBack(Asking):
    def test_many(self):
        sheet = (part("a"), part("b", rank=2), part("c", part("d", rank=1)))
        self.assertEqual([on_from(sheet, name) for name in "dbac"], ["b", "a", "c", "d"])
        self.assertEqual([back_from(sheet, name) for name in "dbac"], ["c", "d", "b", "a"])

    def test_two(self):
        sheet = (part("a"), part("b"))
        self.assertEqual([on_from(sheet, "a"), on_from(sheet, "b")], ["b", "a"])
        self.assertEqual([back_from(sheet, "a"), back_from(sheet, "b")], ["b", "a"])

    def test_one(self):
        for sheet in ((part("a"),), (part("s", word="shut"), part("a", part("h", word="hidden")))):
            self.assertEqual(on_from(sheet, "a"), "a")
            self.assertEqual(back_from(sheet, "a"), "a")

    def test_forty(self):
        names = many_names(40)
        self.assertEqual([on_from(flat(40), name) for name in names], names[1:] + names[:1])
        self.assertEqual([back_from(flat(40), name) for name in names], names[-1:] + names[:-1])

    def test_a_part_that_isnt_open(self):
        sheet = with_words(DEEP, {"ab": "shut", "abcd": "hidden", "c": "hidden", "ca": "shut"})
        for name, why in {"ab": ("shut", "ab"), "abc": ("shut", "ab"), "b": ("shut", "ab"),
                          "abcd": ("hidden", "abcd"), "abcde": ("hidden", "abcd"),
                          "c": ("hidden", "c"), "ca": ("hidden", "c"), "cba": ("hidden", "c")}.items():
            for ask in (on_from, back_from):
                refusal = self.refused(NotOpen, ask, sheet, name)
                self.assertEqual(refusal.why, why)
                self.assertIs(type(refusal.why), tuple)

    def test_no_open_part_at_all(self):
        for ask in (on_from, back_from):
            refusal = self.refused(NotOpen, ask, (part("a", word="shut"),), "a")
            self.assertEqual(refusal.why, ("shut", "a"))

    def test_a_name_that_no_part_has(self):
        for sheet in ((), DEEP, (part("a", word="shut"),)):
            for ask in (on_from, back_from):
                for name in ("x", "", "abcdefg", "on", "a ", "A"):
                    self.assertEqual(self.refused(NoPart, ask, sheet, name).name, name)


class ByChance(Asking):
    def test_walk_as_a_plain_telling_has_it(self):
        for sheet in chance_sheets(10, 400, 30, free=0.85):
            told = [chain[-1] for chain in with_chains(sheet)
                    if all(one[2] == "free" for one in chain)]
            told = [(one[3] == 0, one[3], at, one[0]) for at, one in enumerate(told)]
            self.assertEqual(walk(sheet), [row[3] for row in sorted(told)])

    def test_round_all_open_parts_and_each_the_others_way_back(self):
        for sheet in chance_sheets(11, 300, 20, free=0.85):
            names = [chain[-1][0] for chain in with_chains(sheet)]
            free = [name for name in names if why_not(sheet, name) is None]
            for name in free:
                self.assertEqual(back_from(sheet, on_from(sheet, name)), name)
                self.assertEqual(on_from(sheet, back_from(sheet, name)), name)
            for ask in (on_from, back_from):
                seen = free[:1]
                while seen and ask(sheet, seen[-1]) != seen[0]:
                    seen.append(ask(sheet, seen[-1]))
                    self.assertLessEqual(len(seen), len(free))
                self.assertEqual(sorted(seen), sorted(free))
            for name in names:
                if name not in free:
                    self.assertEqual(self.refused(NotOpen, on_from, sheet, name).why,
                                     why_not(sheet, name))


if __name__ == "__main__":
    unittest.main()
