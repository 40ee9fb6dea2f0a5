"""The promise over the whole program [4], on sheets to which one deed behind the other is done."""

import random
import unittest

from focuswalk.changes import differences, stand_behind
from focuswalk.checks import musts_of
from focuswalk.boxes import lies
from focuswalk.deeds import done
from focuswalk.errors import FocusError, NoWay
from focuswalk.lattices import is_lattice
from focuswalk.readings import reading
from focuswalk.rows import parted, row_to
from focuswalk.sheets import around, level_of, names_of, part_of, place_of
from focuswalk.strays import strays
from focuswalk.views import is_open, is_seen, open_parts
from focuswalk.walkers import Walker
from focuswalk.walks import back_from, on_from
from focuswalk.ways import WAYS, goes, nearest, opposite
from tests.asking import Asking
from tests.plain import SIDES
from tests.samples import chance_deed, chance_sheets


class Whole(Asking):
    def goes_round(self, sheet):
        """On goes round all open parts, each once, and back the other way."""
        names = open_parts(sheet)
        for name in names:
            row = [name]
            while len(row) <= len(names):
                row.append(on_from(sheet, row[-1]))
            self.assertEqual(row[-1], name)
            self.assertEqual(sorted(row[:-1]), sorted(names))
            self.assertEqual(back_from(sheet, on_from(sheet, name)), name)
            self.assertEqual(on_from(sheet, back_from(sheet, name)), name)

    def is_reached_or_not(self, sheet):
        """From each open part a row to each other one, or a list out of which no way leads."""
        apart = False
        for one in open_parts(sheet):
            for other in open_parts(sheet):
                try:
                    name = one
                    for way in row_to(sheet, one, other):
                        name = goes(sheet, name, way)
                    self.assertEqual(name, other)
                except NoWay as refusal:
                    apart = True
                    self.assertTrue(one in refusal.names and other not in refusal.names)
                    ends = [goes(sheet, name, way) for name in refusal.names for way in WAYS]
                    self.assertLessEqual(set(ends) - {None}, set(refusal.names))
        self.assertIs(parted(sheet) is not None, apart)

    def tells_what_doesnt_come_back(self, sheet):
        told = {(name, way): (to, back) for name, way, to, back in strays(sheet)}
        for name in open_parts(sheet):
            for way in SIDES:
                to = nearest(sheet, name, way)
                back = to and nearest(sheet, to, opposite(way))
                if to is None or back == name:
                    self.assertNotIn((name, way), told)
                    continue
                self.assertEqual(told[name, way], (to, back))
                box = part_of(sheet, to)[1]
                nearer, near = [(lies(box, part_of(sheet, one)[1], opposite(way)), place_of(sheet, one))
                                for one in (back, name)]
                self.assertLess(nearer, near)
                if is_lattice(sheet, name):
                    self.assertEqual(near[0][0], 1)

    def is_read_aloud(self, sheet):
        names = [row[0] for row in reading(sheet)]
        self.assertEqual(sorted(names), sorted(name for name in names_of(sheet) if is_seen(sheet, name)))
        for one, other in musts_of(sheet):
            if one in names and other in names:
                self.assertLess(names.index(one), names.index(other))
        for name in names:
            self.assertLessEqual(set(around(sheet, name)), set(names[:names.index(name)]))

    def is_changed_no_more_than_told(self, sheet, other, deed):
        kind, where, name = deed[0], sheet, deed[1]
        if kind == "put":
            where, name = other, deed[3][0]
        level, outer = level_of(where, name), around(where, name)[-1:]
        for one, key, was, now in differences(sheet, other):
            if key in ("on", "back"):
                self.assertIn(kind, ("rank", "word", "put", "take"))
            elif key in SIDES:
                self.assertIn(kind, ("box", "word", "put", "take"))
                self.assertIn(one, level)
            else:
                self.assertEqual(key, "into")
                self.assertIn(kind, ("word", "put", "take"))
                self.assertEqual([one], outer)

    def stands_on_the_next_one(self, sheet, other, stand, now):
        self.assertEqual(now, stand_behind(sheet, other, stand))
        if stand is None or stand in open_parts(other):
            self.assertEqual(now, stand or now)
            return
        step = on_from(sheet, stand)
        while step != stand and step not in open_parts(other):
            step = on_from(sheet, step)
        if step != stand:
            self.assertEqual(now, step)
        self.assertTrue(now is None or is_open(other, now))

    def test_behind_each_deed(self):
        chance = random.Random(71)
        deeds = 0
        for sheet in chance_sheets(72, 40, 9, free=0.85, room=5, heads=0.4):
            walker = Walker(sheet)
            for turn in range(8):
                before, stand = walker.sheet(), walker.stand()
                deed = chance_deed(chance, before)
                try:
                    now = walker.do(deed)
                except FocusError:
                    self.assertEqual((walker.sheet(), walker.stand()), (before, stand))
                    continue
                deeds += 1
                after = walker.sheet()
                self.assertEqual(after, done(before, deed))
                self.stands_on_the_next_one(before, after, stand, now)
                self.is_changed_no_more_than_told(before, after, deed)
                for promise in (self.goes_round, self.is_reached_or_not, self.tells_what_doesnt_come_back,
                                self.is_read_aloud):
                    promise(after)
                walker.press(chance.choice(["on", "back", "right", "into"]))
        self.assertGreater(deeds, 150)


if __name__ == "__main__":
    unittest.main()
