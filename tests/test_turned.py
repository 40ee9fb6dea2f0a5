"""Sheets mirrored, turned over, shifted and grown [2, 20]."""

import unittest

from focuswalk.checks import checked
from focuswalk.deeds import done
from focuswalk.errors import NoText
from focuswalk.texts import read, shown
from focuswalk.turned import grown, mirrored, shifted, turned_over
from focuswalk.ways import goes, nearest
from tests.asking import Asking
from tests.plain import KEYS, plain_goes
from tests.samples import (DEEP, GREATEST, branching, buried, chance_sheets, flat, part, with_chains)

SHEET = (part("a", part("b", part("c", box=(-5, 3, 1, 9)), box=(7, -2, 4, 6), word="shut", rank=2),
              box=(10, 20, 3, 4), head="d"),
         part("d", box=(0, 0, 1, 1), word="hidden", rank=GREATEST))

# Where the keys lead on the turned sheet, by where they led on the one turned.
MIRRORED = {"left": "right", "right": "left"}
TURNED_OVER = {"left": "up", "up": "left", "right": "down", "down": "right"}

TURNS = ((mirrored, MIRRORED), (turned_over, TURNED_OVER),
         (lambda sheet: shifted(sheet, 5, -7), {}), (lambda sheet: grown(sheet, 3), {}))


def boxes_of(sheet):
    return {chain[-1][0]: chain[-1][1] for chain in with_chains(sheet)}


def without_boxes(sheet):
    """The sheet, but for its boxes."""
    return tuple((name, word, rank, head, without_boxes(parts))
                 for name, box, word, rank, head, parts in sheet)


class Turned(Asking):
    def turned(self, sheet, told):
        """The boxes of a turned sheet, of which all else is as it was."""
        self.assertIs(checked(told), told)
        self.assertEqual(without_boxes(told), without_boxes(sheet))
        for box in boxes_of(told).values():
            self.assertEqual([type(number) for number in box], [int] * 4)
        return boxes_of(told)

    def test_mirrored(self):
        self.assertEqual(self.turned(SHEET, mirrored(SHEET)),
                         {"a": (-13, 20, 3, 4), "b": (-11, -2, 4, 6), "c": (4, 3, 1, 9),
                          "d": (-1, 0, 1, 1)})

    def test_turned_over(self):
        self.assertEqual(self.turned(SHEET, turned_over(SHEET)),
                         {"a": (20, 10, 4, 3), "b": (-2, 7, 6, 4), "c": (3, -5, 9, 1),
                          "d": (0, 0, 1, 1)})

    def test_shifted(self):
        self.assertEqual(self.turned(SHEET, shifted(SHEET, 5, -30)),
                         {"a": (15, -10, 3, 4), "b": (12, -32, 4, 6), "c": (0, -27, 1, 9),
                          "d": (5, -30, 1, 1)})
        self.assertEqual(shifted(SHEET, 0, 0), SHEET)

    def test_grown(self):
        self.assertEqual(self.turned(SHEET, grown(SHEET, 3)),
                         {"a": (30, 60, 9, 12), "b": (21, -6, 12, 18), "c": (-15, 9, 3, 27),
                          "d": (0, 0, 3, 3)})
        self.assertEqual(grown(SHEET, 1), SHEET)

    def test_sheet_without_parts(self):
        for told in (mirrored(()), turned_over(()), shifted((), 1, 2), grown((), 2)):
            self.assertEqual(told, ())
            self.assertIs(type(told), tuple)

    def test_five_deep(self):
        sheet = buried(part("x", box=(1, 2, 3, 4)), 5)
        for told, box in ((mirrored(sheet), (-4, 2, 3, 4)), (turned_over(sheet), (2, 1, 4, 3)),
                          (shifted(sheet, -1, 9), (0, 11, 3, 4)), (grown(sheet, 7), (7, 14, 21, 28))):
            self.assertEqual(self.turned(sheet, told)["x"], box)

    def test_twice_is_the_sheet_handed_in(self):
        for sheet in ((), SHEET, DEEP, flat(40), branching(40), *chance_sheets(24, 100, 40)):
            self.assertEqual(mirrored(mirrored(sheet)), sheet)
            self.assertEqual(turned_over(turned_over(sheet)), sheet)
            self.assertEqual(shifted(shifted(sheet, 8, -GREATEST), -8, GREATEST), sheet)
            self.assertEqual(grown(grown(sheet, 2), 3), grown(sheet, 6))

    def test_sheet_handed_in_stays(self):
        text = shown(SHEET)
        mirrored(SHEET)
        turned_over(SHEET)
        shifted(SHEET, 1, 2)
        grown(SHEET, 2)
        self.assertEqual(shown(SHEET), text)


class GreatNumbers(Asking):
    SHEET = (part("a", box=(GREATEST, -GREATEST, GREATEST, GREATEST)),
             part("b", part("c", box=(-GREATEST, GREATEST, 1, 1)), box=(-GREATEST, GREATEST, 1, 1)))

    def test_sixty_figures(self):
        great = GREATEST
        self.assertEqual(boxes_of(mirrored(self.SHEET))["a"], (-2 * great, -great, great, great))
        self.assertEqual(boxes_of(turned_over(self.SHEET))["a"], (-great, great, great, great))
        self.assertEqual(boxes_of(shifted(self.SHEET, great, -great))["a"],
                         (2 * great, -2 * great, great, great))
        self.assertEqual(boxes_of(grown(self.SHEET, great))["c"], (-great * great, great * great, great, great))

    def test_greater_ones_are_shown_checked_and_done_with_but_not_read(self):
        for told in (mirrored(self.SHEET), shifted(self.SHEET, GREATEST, 1), grown(self.SHEET, GREATEST)):
            self.assertIs(checked(told), told)
            self.refused(NoText, read, shown(told))
            for word in ("shut", "free"):
                self.assertEqual(done(told, ("word", "c", word))[0], told[0])
            self.assertEqual(done(told, ("take", "b")), told[:1])
            self.assertEqual(done(told, ("put", "b", 0, part("d")))[1][5][1], told[1][5][0])
            self.assertEqual(done(told, ("box", "c", told[0][1]))[1][5][0][1], told[0][1])
            self.assertEqual(shown(told).split("\n")[0],
                             " ".join(["0 a", *map(str, told[0][1]), "free 0 -"]))
            self.assertEqual(mirrored(mirrored(told)), told)

    def test_grown_again_and_again(self):
        sheet = self.SHEET
        for turn in range(80):
            sheet = grown(sheet, GREATEST)
        self.assertTrue(boxes_of(sheet)["c"] == (-GREATEST ** 81, GREATEST ** 81, GREATEST ** 80, GREATEST ** 80))
        self.assertIs(checked(sheet), sheet)
        self.assertGreater(len(shown(sheet)), 8000)
        self.assertEqual(self.refused(NoText, read, shown(sheet)).line, 0)
        self.assertEqual(nearest(sheet, "a", "left"), "b")
        self.assertEqual(nearest(mirrored(sheet), "a", "right"), "b")
        self.assertEqual(done(sheet, ("take", "b")), sheet[:1])
        back = shifted(shifted(sheet, GREATEST, 1), -GREATEST, -1)
        self.assertTrue(back == sheet)


class Keys(Asking):
    def test_one_beside_another(self):
        sheet = (part("a"), part("b", box=(5, 0, 1, 1)))
        self.assertEqual(nearest(sheet, "a", "right"), "b")
        self.assertEqual(nearest(mirrored(sheet), "a", "left"), "b")
        self.assertEqual(nearest(turned_over(sheet), "a", "down"), "b")
        self.assertEqual(nearest(shifted(sheet, -9, 9), "a", "right"), "b")
        self.assertEqual(nearest(grown(sheet, 9), "a", "right"), "b")

    def test_of_several_as_near_the_first_stays_the_first(self):
        sheet = (part("a", box=(0, 0, 4, 4)), part("b", box=(9, 3, 1, 1)), part("c", box=(9, 0, 1, 1)))
        self.assertEqual(nearest(mirrored(sheet), "a", "left"), "b")
        self.assertEqual(nearest(turned_over(sheet), "a", "down"), "b")

    def test_by_chance(self):
        led = 0
        for sheet in chance_sheets(25, 300, 7, free=0.9, room=5):
            for turn, exchanged in TURNS:
                told = turn(sheet)
                leads = plain_goes(sheet)
                self.assertEqual(list(plain_goes(told)), list(leads))
                for name in leads:
                    for key in KEYS:
                        to = goes(told, name, exchanged.get(key, key))
                        self.assertEqual(to, leads[name][key])
                        led += key in TURNED_OVER and to is not None
        self.assertGreater(led, 1000)


if __name__ == "__main__":
    unittest.main()
