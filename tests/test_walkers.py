"""The walker [2, 3, 4, 24]."""

import random
import unittest

from focuswalk.deeds import done
from focuswalk.errors import FocusError, MustRing, NoDeed, NoHead, NoKey, NoPart, NoPlace, NoSheet, Twice
from focuswalk.texts import shown
from focuswalk.walkers import Walker
from focuswalk.walks import walk
from focuswalk.ways import goes
from tests.asking import Asking
from tests.plain import KEYS, PlainWalker
from tests.samples import (DEEP, DEEP_NAMES, chance_deed, chance_sheets, flat, in_a_row, many_names, part,
                           with_words)

OTHER_TEXTS = ("", "On", "ON", "on ", " on", "o", "onback", "up\n", "stand", "-", "x" * 8000)
NOTHING_OPEN = ((), (part("a", word="shut"),), (part("a", part("b"), part("c"), word="hidden"),))

# Within o three in a row, of which b leads into two more.
INNER = (part("o", *in_a_row("a"), part("b", part("x"), part("y"), box=(3, 0, 2, 2)),
              part("c", box=(6, 0, 2, 2))),)


class Walking(Asking):
    def walks(self, walker, *keys):
        """All that the keys, pressed one behind the other, told."""
        return [walker.press(key) for key in keys]

    def at(self, sheet, *keys):
        """A walker of the sheet behind these keys."""
        walker = Walker(sheet)
        self.walks(walker, *keys)
        return walker

    def state(self, walker):
        return walker.stand(), walker.sheet(), walker.told()

    def stays(self, walker, kind, ask, given):
        """Refused, and nothing has changed."""
        before = self.state(walker)
        refusal = self.refused(kind, ask, given)
        self.assertEqual(self.state(walker), before)
        return refusal


class AtFirst(Walking):
    def test_on_the_first_of_the_walk(self):
        for sheet in (DEEP, in_a_row("b", "a"), (part("a"), part("b", rank=2), part("c", rank=1)),
                      (part("a", word="shut"), part("b")), *chance_sheets(40, 60, 12)):
            first = (walk(sheet) or [None])[0]
            walker = Walker(sheet)
            self.assertEqual(walker.stand(), first)
            self.assertEqual(walker.sheet(), sheet)
            self.assertEqual(walker.told(), [first] if first else [])

    def test_no_open_part(self):
        for sheet in NOTHING_OPEN:
            walker = Walker(sheet)
            self.assertEqual(self.state(walker), (None, sheet, []))
            self.assertEqual(self.walks(walker, *KEYS), [None] * 8)
            self.assertEqual(self.state(walker), (None, sheet, []))

    def test_methods_stand_in_the_class_itself(self):
        for name in ("stand", "sheet", "press", "do", "told"):
            self.assertIn(name, vars(Walker))


class Keys(Walking):
    CROSS = (part("x", part("m", part("i"), part("j"), box=(0, 0, 2, 2)), part("b", box=(0, -5, 1, 1)),
                  part("c", box=(0, 5, 1, 1)), part("d", box=(-5, 0, 1, 1)), part("e", box=(5, 0, 1, 1))),)

    def test_each_of_the_eight(self):
        for key, to in zip(KEYS, ("i", "x", "b", "c", "d", "e", "i", "x")):
            walker = self.at(self.CROSS, "into")
            self.assertEqual(walker.stand(), "m")
            self.assertEqual(walker.press(key), to)
            self.assertEqual(walker.stand(), to)
            self.assertEqual(walker.told(), ["x", "m", to])

    def test_round_and_round(self):
        walker = Walker(DEEP)
        self.assertEqual(self.walks(walker, *["on"] * 28), DEEP_NAMES[1:] + DEEP_NAMES + DEEP_NAMES[:1])
        self.assertEqual(self.walks(walker, *["back"] * 14), DEEP_NAMES[:0:-1] + DEEP_NAMES[:1])
        self.assertEqual(len(walker.told()), 1 + 28 + 14)

    def test_a_key_that_leads_nowhere(self):
        for key in ("up", "down", "left", "into", "out"):
            walker = self.at(in_a_row("a", "b"))
            self.assertEqual(walker.press(key), "a")
            self.assertEqual(self.state(walker), ("a", in_a_row("a", "b"), ["a"]))

    def test_a_key_that_leads_to_the_part_itself(self):
        walker = self.at((part("a"),), "on", "back", "on")
        self.assertEqual(self.state(walker), ("a", (part("a"),), ["a"]))

    def test_told_each_time_anew(self):
        walker = self.at(in_a_row("a", "b"), "right", "right", "left", "left", "on", "back")
        self.assertEqual(walker.told(), ["a", "b", "a", "b", "a"])

    def test_keys_change_no_sheet(self):
        text = shown(INNER)
        walker = self.at(INNER, "into", "right", "out", "into", "into", "on", "back", "out")
        self.assertEqual(shown(walker.sheet()), text)
        self.assertEqual(shown(INNER), text)


class IntoAgain(Walking):
    def test_comes_back_to_the_one_last_left_by_out(self):
        walker = self.at(INNER, "into")
        self.assertEqual(self.walks(walker, "right", "out", "into"), ["b", "o", "b"])
        self.assertEqual(self.walks(walker, "right", "out", "into"), ["c", "o", "c"])
        self.assertEqual(self.walks(walker, "out", "into", "left", "left", "out", "into"),
                         ["o", "c", "b", "a", "o", "a"])
        self.assertEqual(goes(INNER, "o", "into"), "a")

    def test_at_first_as_ways_tell(self):
        self.assertEqual(self.walks(Walker(INNER), "into"), ["a"])

    def test_for_each_part_by_itself(self):
        walker = self.at(INNER, "into", "right", "into", "on")
        self.assertEqual(walker.stand(), "y")
        self.assertEqual(self.walks(walker, "out", "right", "out", "into", "left", "into"),
                         ["b", "c", "o", "c", "b", "y"])

    def test_only_by_the_key_out(self):
        # From b to o by back, from o on to a: nothing is kept.
        walker = self.at(INNER, "on", "on")
        self.assertEqual(self.walks(walker, "back", "back", "into"), ["a", "o", "a"])
        walker = self.at(INNER, "on", "on")
        walker.do(("word", "b", "shut"))
        self.assertEqual(walker.stand(), "c")
        self.assertEqual(self.walks(walker, "on", "into"), ["o", "a"])

    def test_behind_other_keys(self):
        sheet = (*INNER, part("q", part("r"), box=(20, 0, 1, 1)))
        walker = self.at(sheet, "into", "right", "out", "right", "into", "on")
        self.assertEqual(walker.stand(), "o")
        self.assertEqual(walker.press("into"), "b")

    def test_out_from_an_outer_one_keeps_nothing(self):
        walker = self.at(in_a_row("a", "b"), "out", "right", "out")
        self.assertEqual(walker.stand(), "b")
        walker.do(("put", "b", 0, part("i")))
        self.assertEqual(walker.press("into"), "i")

    def left_b(self):
        walker = self.at(INNER, "into", "right", "out")
        self.assertEqual(walker.stand(), "o")
        return walker

    def test_shut_hidden_and_free_again(self):
        for word in ("shut", "hidden"):
            walker = self.left_b()
            walker.do(("word", "b", word))
            self.assertEqual(walker.press("into"), "a")
            walker.press("back")
            walker.do(("word", "b", "free"))
            self.assertEqual(walker.press("into"), "b")

    def test_taken_and_put_back(self):
        walker = self.left_b()
        walker.do(("take", "b"))
        self.assertEqual(self.walks(walker, "into", "back"), ["a", "o"])
        walker.do(("put", "o", 2, part("b")))
        self.assertEqual(walker.press("into"), "b")

    def test_put_elsewhere(self):
        walker = self.left_b()
        walker.do(("take", "b"))
        walker.do(("put", "a", 0, part("b")))
        self.assertEqual(self.walks(walker, "into", "into"), ["a", "b"])
        walker = self.left_b()
        walker.do(("take", "b"))
        walker.do(("put", None, 1, part("b")))
        self.assertEqual(walker.stand(), "o")
        self.assertEqual(walker.press("into"), "a")

    def test_the_part_around_it_taken_and_put_back(self):
        walker = self.left_b()
        walker.do(("put", None, 1, part("q")))
        walker.do(("take", "o"))
        self.assertEqual(walker.stand(), "q")
        walker.do(("put", None, 0, INNER[0]))
        self.assertEqual(self.walks(walker, "on", "into"), ["o", "b"])

    def test_behind_other_deeds(self):
        walker = self.left_b()
        for deed in (("box", "b", (50, 50, 1, 1)), ("rank", "b", 3), ("head", "a", "b"), ("put", "o", 0, part("z")),
                     ("rank", "b", 0)):
            walker.do(deed)
        self.assertEqual(walker.stand(), "o")
        self.assertEqual(walker.press("into"), "b")

    def test_none_left_within(self):
        walker = self.left_b()
        for name in "abc":
            walker.do(("take", name))
        self.assertEqual(walker.press("into"), "o")
        self.assertEqual(walker.told(), ["o", "a", "b", "o"])


class Deeds(Walking):
    def test_as_done(self):
        for deed in (("word", "b", "shut"), ("box", "b", (9, 9, 1, 1)), ("rank", "c", 1), ("head", "a", "c"),
                     ("put", "c", 0, part("z")), ("take", "c")):
            walker = Walker(INNER)
            self.assertEqual(walker.do(deed), "o")
            self.assertEqual(walker.sheet(), done(INNER, deed))
            self.assertEqual(walker.told(), ["o"])

    def test_under_whoever_stands_on_it(self):
        for deed in (("word", "b", "shut"), ("word", "b", "hidden"), ("take", "b")):
            walker = self.at(in_a_row("a", "b", "c"), "right")
            self.assertEqual(walker.do(deed), "c")
            self.assertEqual(walker.stand(), "c")
            self.assertEqual(walker.told(), ["a", "b", "c"])
        for deed in (("word", "o", "shut"), ("take", "o")):
            walker = self.at((*INNER, part("q")), "into", "right", "into")
            self.assertEqual(walker.do(deed), "q")

    def test_coming_round(self):
        walker = self.at(in_a_row("a", "b", "c"), "back")
        self.assertEqual(walker.do(("take", "c")), "a")
        self.assertEqual(walker.told(), ["a", "c", "a"])

    def test_nowhere_and_back(self):
        walker = Walker((part("a"),))
        self.assertIs(walker.do(("word", "a", "shut")), None)
        self.assertEqual(walker.told(), ["a"])
        self.assertIs(walker.do(("rank", "a", 1)), None)
        self.assertEqual(walker.do(("word", "a", "free")), "a")
        # From nowhere each part counts, also the last one told.
        self.assertEqual(walker.told(), ["a", "a"])
        self.assertIs(walker.do(("take", "a")), None)
        self.assertEqual(walker.do(("put", None, 0, part("b"))), "b")
        self.assertEqual(walker.told(), ["a", "a", "b"])

    def test_from_nowhere_to_the_first_of_the_walk(self):
        walker = Walker(())
        walker.do(("put", None, 0, part("a", part("b", rank=1))))
        self.assertEqual(self.state(walker), ("b", (part("a", part("b", rank=1)),), ["b"]))

    def test_a_deed_that_moves_nobody(self):
        walker = self.at(in_a_row("a", "b", "c"), "right")
        for deed in (("rank", "c", 1), ("word", "a", "shut"), ("put", None, 0, part("z", rank=1)), ("take", "c")):
            self.assertEqual(walker.do(deed), "b")
        self.assertEqual(walker.told(), ["a", "b"])

    def test_sheet_handed_in_stays(self):
        sheet = in_a_row("a", "b")
        text = shown(sheet)
        Walker(sheet).do(("take", "a"))
        self.assertEqual(shown(sheet), text)


class Refusals(Walking):
    def test_no_key(self):
        for sheet in (INNER, DEEP, *NOTHING_OPEN):
            walker = self.at(sheet, "into", "on")
            for key in OTHER_TEXTS:
                self.stays(walker, NoKey, walker.press, key)

    def test_refused_as_done(self):
        walker = self.at(INNER, "into", "right", "out")
        ring = part("p", part("q", head="r"), part("r", head="q"))
        for kind, deed in ((NoDeed, None), (NoDeed, ("word", "zz", "open")), (NoDeed, ["take", "a"]),
                           (NoPart, ("take", "zz")), (NoPart, ("put", "zz", -1, None)),
                           (NoPlace, ("put", "o", 4, None)), (NoSheet, ("put", "o", 3, None)),
                           (Twice, ("put", "o", 3, part("a"))), (NoHead, ("head", "a", "o")),
                           (MustRing, ("put", None, 0, ring))):
            self.stays(walker, kind, walker.do, deed)
        self.assertEqual(walker.press("into"), "b")
        self.assertEqual(self.stays(walker, NoPart, walker.do, ("take", "zz")).name, "zz")

    def test_from_nowhere(self):
        walker = Walker(())
        self.stays(walker, NoPart, walker.do, ("take", "a"))
        self.stays(walker, NoDeed, walker.do, ())
        self.assertEqual(walker.do(("put", None, 0, part("a"))), "a")


class Side(Walking):
    def test_two_side_by_side(self):
        one, other = Walker(INNER), Walker(INNER)
        self.walks(one, "into", "right", "out")
        self.assertEqual(self.state(other), ("o", INNER, ["o"]))
        self.assertEqual(self.walks(other, "into"), ["a"])
        other.do(("take", "b"))
        self.assertEqual(one.sheet(), INNER)
        self.assertEqual(one.press("into"), "b")
        self.assertEqual(other.told(), ["o", "a"])

    def test_told_lists_are_the_askers_own(self):
        walker = self.at(INNER, "into", "right")
        self.own_list(walker.told)
        first = walker.told()
        walker.press("out")
        self.assertEqual(first, ["o", "a", "b"])
        self.assertEqual(walker.told(), ["o", "a", "b", "o"])
        first.clear()
        self.own_list(walker.told)
        self.own_list(Walker(()).told)

    def test_forty_parts(self):
        walker = Walker(flat(40))
        self.assertEqual(self.walks(walker, *["on"] * 40), many_names(40)[1:] + ["aa"])
        for name in many_names(40)[:39]:
            walker.do(("take", name))
        self.assertEqual(walker.stand(), many_names(40)[39])
        self.assertEqual(walker.told()[40:], many_names(40))


class ByChance(Walking):
    def test_as_a_plain_walker_goes(self):
        chance = random.Random(41)
        counts = {"again": 0, "nowhere": 0, "deeds": 0}
        for sheet in chance_sheets(42, 100, 12, free=0.9, room=4):
            walker, plain = Walker(sheet), PlainWalker(sheet)
            for turn in range(60):
                if chance.random() < 0.25:
                    counts["deeds"] += self.one_deed(walker, plain, chance_deed(chance, walker.sheet()))
                else:
                    key = chance.choice([*KEYS, "into", "into", "out"])
                    by_ways = walker.stand() and goes(walker.sheet(), walker.stand(), key)
                    counts["again"] += walker.press(key) != (by_ways or walker.stand())
                    plain.press(key)
                self.assertEqual(self.state(walker), (plain.stand(), plain.sheet, plain.told()))
                counts["nowhere"] += walker.stand() is None
        self.assertGreater(min(counts.values()), 25, counts)

    def one_deed(self, walker, plain, deed):
        before = self.state(walker)
        try:
            told = walker.do(deed)
        except FocusError:
            self.assertEqual(self.state(walker), before)
            return 0
        plain.do(deed)
        self.assertEqual(told, walker.stand())
        return 1

    def test_never_on_a_part_that_isnt_open(self):
        chance = random.Random(43)
        for sheet in chance_sheets(44, 40, 12, free=0.7):
            walker = Walker(sheet)
            for turn in range(40):
                try:
                    walker.do(chance_deed(chance, walker.sheet()))
                except FocusError:
                    continue
                names = walk(walker.sheet())
                self.assertIn(walker.stand(), names or [None])
                walker.press(chance.choice(KEYS))
                self.assertIn(walker.stand(), names or [None])


if __name__ == "__main__":
    unittest.main()
