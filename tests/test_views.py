"""What is seen, what is open, and why a part isn't [2, 3, 9]."""

import itertools
import unittest

from focuswalk.errors import NoPart
from focuswalk.views import is_open, is_seen, open_parts, why_not
from tests.asking import Asking
from tests.samples import (DEEP, DEEP_NAMES, branching, chance_sheets, flat, many_names, part,
                           with_chains, with_words)

WORDS = ("free", "shut", "hidden")
FIVE = ("a", "b", "c", "d", "e")


def nested(words):
    """A sheet of parts a, b and so on, each directly within the one ahead, with these words."""
    parts = ()
    for name, word in list(zip(FIVE, words))[::-1]:
        parts = (part(name, *parts, word=word),)
    return parts


def plain_why(names, words):
    """Why the last of these isn't open, told by a search for each word."""
    if "hidden" in words:
        return ("hidden", names[words.index("hidden")])
    if "shut" in words:
        return ("shut", names[words.index("shut")])
    return None


class OnePart(Asking):
    def test_free(self):
        sheet = (part("a"),)
        self.assertIs(is_seen(sheet, "a"), True)
        self.assertIs(is_open(sheet, "a"), True)
        self.assertIs(why_not(sheet, "a"), None)
        self.assertEqual(open_parts(sheet), ["a"])

    def test_shut(self):
        sheet = (part("a", word="shut"),)
        self.assertIs(is_seen(sheet, "a"), True)
        self.assertIs(is_open(sheet, "a"), False)
        self.assertEqual(why_not(sheet, "a"), ("shut", "a"))
        self.assertEqual(open_parts(sheet), [])

    def test_hidden(self):
        sheet = (part("a", word="hidden"),)
        self.assertIs(is_seen(sheet, "a"), False)
        self.assertIs(is_open(sheet, "a"), False)
        self.assertEqual(why_not(sheet, "a"), ("hidden", "a"))
        self.assertEqual(open_parts(sheet), [])

    def test_sheet_without_parts(self):
        self.assertEqual(open_parts(()), [])


class Nested(Asking):
    def test_hidden_goes_ahead_of_shut_around_it(self):
        sheet = nested(("shut", "hidden", "free"))
        self.assertEqual([why_not(sheet, name) for name in "abc"],
                         [("shut", "a"), ("hidden", "b"), ("hidden", "b")])
        self.assertEqual([is_seen(sheet, name) for name in "abc"], [True, False, False])

    def test_shut_within_hidden(self):
        sheet = nested(("hidden", "shut", "free"))
        self.assertEqual([why_not(sheet, name) for name in "abc"], [("hidden", "a")] * 3)

    def test_outermost_one_is_named(self):
        self.assertEqual(why_not(nested(("free", "shut", "shut", "shut")), "d"), ("shut", "b"))
        self.assertEqual(why_not(nested(("shut", "hidden", "hidden", "shut")), "d"), ("hidden", "b"))

    def test_all_words_five_deep(self):
        for words in itertools.product(WORDS, repeat=5):
            sheet = nested(words)
            for deep in range(5):
                row = words[:deep + 1]
                with self.subTest(row):
                    name = FIVE[deep]
                    self.assertEqual(why_not(sheet, name), plain_why(FIVE, row))
                    self.assertIs(is_open(sheet, name), row.count("free") == len(row))
                    self.assertIs(is_seen(sheet, name), "hidden" not in row)
            free = list(itertools.takewhile(lambda pair: pair[1] == "free", zip(FIVE, words)))
            self.assertEqual(open_parts(sheet), [name for name, word in free])

    def test_parts_beside_and_within_dont_count(self):
        sheet = (part("a", part("b", word="hidden"), part("c", part("d", word="shut"))),
                 part("e", word="hidden"), part("f"))
        self.assertEqual(open_parts(sheet), ["a", "c", "f"])
        for name in ("a", "c", "f"):
            self.assertIs(why_not(sheet, name), None)
            self.assertIs(is_seen(sheet, name), True)
        self.assertEqual(why_not(sheet, "d"), ("shut", "d"))
        self.assertIs(is_seen(sheet, "d"), True)

    def test_head_doesnt_count(self):
        sheet = (part("a", head="b"), part("b", word="hidden"), part("c", head="d"),
                 part("d", word="shut"))
        self.assertEqual(open_parts(sheet), ["a", "c"])


class OpenParts(Asking):
    def test_by_the_sheets_order(self):
        self.assertEqual(open_parts(DEEP), DEEP_NAMES)
        self.assertEqual(open_parts(flat(40)), many_names(40))
        self.assertEqual(open_parts(branching(40)), many_names(40))

    def test_nothing_within_a_part_that_isnt_free(self):
        for word in ("shut", "hidden"):
            self.assertEqual(open_parts(with_words(DEEP, {"abc": word, "cb": word})),
                             ["a", "ab", "ac", "abcdefgh", "c", "ca", "cc"])

    def test_ranks_dont_count(self):
        self.assertEqual(open_parts((part("b", rank=2), part("a", rank=1), part("c"))),
                         ["b", "a", "c"])

    def test_list_is_the_askers_own(self):
        self.own_list(open_parts, DEEP)
        self.own_list(open_parts, ())


class NoSuchPart(Asking):
    def test_a_name_that_no_part_has(self):
        for sheet in ((), DEEP, with_words(DEEP, {"a": "hidden", "c": "shut"})):
            for ask in (is_seen, is_open, why_not):
                for name in ("x", "", "A", "abcdefg", "a ", "free", "-", "x" * 8000):
                    self.assertEqual(self.refused(NoPart, ask, sheet, name).name, name)


class ByChance(Asking):
    def test_as_a_plain_telling_has_it(self):
        for sheet in chance_sheets(9, 400, 20):
            names = []
            for chain in with_chains(sheet):
                outer = [one[0] for one in chain]
                words = [one[2] for one in chain]
                why = plain_why(outer, words)
                self.assertEqual(why_not(sheet, outer[-1]), why)
                self.assertIs(type(why_not(sheet, outer[-1])), type(why))
                self.assertIs(is_open(sheet, outer[-1]), why is None)
                self.assertIs(is_seen(sheet, outer[-1]), why is None or why[0] == "shut")
                names += outer[-1:] if why is None else []
            self.assertEqual(open_parts(sheet), names)


if __name__ == "__main__":
    unittest.main()
