"""Lattices and full lattices [2, 3, 4, 17, 19]."""

import itertools
import random
import unittest

from focuswalk.boxes import lies
from focuswalk.errors import NoPart
from focuswalk.lattices import is_full, is_lattice
from focuswalk.layers import is_linked
from focuswalk.sheets import part_of
from focuswalk.strays import strays
from tests.asking import Asking
from tests.plain import plain_open
from tests.samples import (DEEP, GREATEST, chance_box, chance_sheets, many_names, part, with_chains,
                           with_level, with_words)


# Whether a level has several open parts, is a lattice, is full.
SEVERAL_FULL = (True, True, True)
SEVERAL_CROSSED = (True, True, False)
SEVERAL_MIXED = (True, False, False)
FEW = (False, True, True)


def of_boxes(*boxes):
    """Outer parts with these boxes, a, b and so on."""
    return tuple(part(name, box=box) for name, box in zip("abcdefghijklmnopqrstuvwxyz", boxes))


def grid(columns, rows):
    """The boxes of a full lattice of columns (left, wide) and rows (top, high)."""
    return [(left, top, wide, high) for left, wide in columns for top, high in rows]


def fields(start, size):
    return set(range(start, start + size))


def plain_lattice(boxes):
    """Whether boxes make a lattice, by counting unit fields."""
    for one, other in itertools.combinations(boxes, 2):
        same = []
        for at in (0, 1):
            here, there = fields(one[at], one[at + 2]), fields(other[at], other[at + 2])
            if here != there and here & there:
                return False
            same.append(here == there)
        if all(same):
            return False
    return True


def plain_full(boxes):
    """Whether boxes make a full lattice: as many as columns times rows."""
    columns = {(left, wide) for left, top, wide, high in boxes}
    rows = {(top, high) for left, top, wide, high in boxes}
    return plain_lattice(boxes) and len(boxes) == len(columns) * len(rows)


class Lattices(Asking):
    def tells(self, sheet, name, lattice, full):
        self.assertIs(is_lattice(sheet, name), lattice)
        self.assertIs(is_full(sheet, name), full)

    def level(self, boxes, lattice, full):
        """All parts of such a level are told alike, at any depth."""
        for deep in range(1, 6):
            sheet = with_level(deep, of_boxes(*boxes))
            for name in "abcdefghijklmnopqrstuvwxyz"[:len(boxes)]:
                self.tells(sheet, name, lattice, full)


class Levels(Lattices):
    def test_one_open_part_or_none(self):
        self.level([(0, 0, 1, 1)], True, True)
        sheet = (part("a", word="shut"), part("b", word="hidden"), part("c", part("d"), word="shut"))
        for name in "abcd":
            self.tells(sheet, name, True, True)
        self.tells((*sheet, part("e")), "a", True, True)
        self.tells((*sheet, part("e")), "e", True, True)

    def test_full_ones(self):
        self.level(grid([(0, 2)], [(0, 3), (3, 1), (9, 2)]), True, True)
        self.level(grid([(0, 2), (4, 5)], [(0, 3)]), True, True)
        self.level(grid([(0, 2), (2, 5), (-9, 3)], [(0, 3), (3, 1), (9, 2)]), True, True)

    def test_lacking_one_box(self):
        boxes = grid([(0, 2), (2, 5), (-9, 3)], [(0, 3), (3, 1), (9, 2)])
        for at in range(9):
            self.level(boxes[:at] + boxes[at + 1:], True, False)
        for at in range(4):
            boxes = grid([(0, 2), (4, 5)], [(0, 3), (7, 1)])
            self.level(boxes[:at] + boxes[at + 1:], True, False)

    def test_two_aslant(self):
        self.level([(0, 0, 1, 1), (1, 1, 1, 1)], True, False)
        self.level([(0, 0, 1, 1), (5, -5, 2, 3)], True, False)

    def test_the_same_box_twice(self):
        self.level([(0, 0, 1, 1), (0, 0, 1, 1)], False, False)
        boxes = grid([(0, 2), (4, 5)], [(0, 3), (7, 1)])
        for box in boxes:
            self.level([*boxes, box], False, False)

    def test_stretches_that_just_touch(self):
        self.level([(0, 0, 2, 2), (2, 0, 3, 2)], True, True)
        self.level([(0, 0, 2, 2), (-3, 0, 3, 2)], True, True)
        self.level([(0, 0, 2, 2), (0, 2, 2, 1)], True, True)
        self.level([(0, 0, 2, 2), (0, -1, 2, 1)], True, True)
        self.level([(0, 0, 2, 2), (2, 2, 3, 3)], True, False)

    def test_stretches_with_something_in_common_that_arent_the_same(self):
        for other in ((1, 0, 2, 2), (0, 0, 1, 2), (1, 0, 1, 2), (-1, 0, 9, 2), (0, 1, 2, 2),
                      (0, 0, 2, 3), (0, 1, 2, 1), (0, -5, 2, 9), (1, 5, 2, 2), (5, 1, 2, 2),
                      (0, 5, 3, 2), (5, 0, 2, 3), (1, 1, 2, 2)):
            self.level([(0, 0, 2, 2), other], False, False)
            self.level([other, (0, 0, 2, 2)], False, False)
            self.level([(90, 90, 1, 1), other, (50, 50, 1, 1), (0, 0, 2, 2)], False, False)

    def test_the_last_two_alone(self):
        boxes = grid([(0, 2), (4, 2), (8, 2)], [(0, 2)])
        self.level([*boxes, (12, 0, 3, 2), (14, 0, 3, 2)], False, False)

    def test_full_by_the_stretches_of_two_unlike_parts(self):
        # Columns and rows of one another: the box asked for has one's left and wide, other's top and high.
        self.level([(0, 0, 1, 2), (3, 0, 4, 2), (0, 5, 1, 6), (3, 5, 4, 6)], True, True)
        self.level([(0, 0, 1, 2), (3, 0, 4, 2), (0, 5, 1, 6), (9, 20, 4, 6)], True, False)

    def test_far_and_below_nought(self):
        great = GREATEST
        self.level(grid([(-great, great), (0, great)], [(-great, 1), (great, great)]), True, True)
        self.level([(-great, 0, great, 1), (-1, 0, great, 1)], False, False)

    def test_twenty_three_parts(self):
        self.level([(3 * at, 0, 2, 2) for at in range(23)], True, True)
        self.level([(3 * at, 3 * at, 2, 2) for at in range(23)], True, False)


class ClosedParts(Lattices):
    def test_count_for_nothing(self):
        boxes = grid([(0, 2), (4, 5)], [(0, 3), (7, 1)])
        for word in ("shut", "hidden"):
            for at in range(5):
                level = list(of_boxes(*boxes))
                level.insert(at, part("z", part("y"), box=(1, 1, 9, 9), word=word))
                for name in "abcdz":
                    self.tells(tuple(level), name, True, True)

    def test_a_closed_one_doesnt_fill_a_lattice(self):
        sheet = of_boxes(*grid([(0, 2), (4, 5)], [(0, 3), (7, 1)]))
        for name in "abcd":
            for word in ("shut", "hidden"):
                for other in "abcd":
                    self.tells(with_words(sheet, {name: word}), other, True, False)

    def test_nothing_is_open_within_a_closed_part(self):
        level = of_boxes((0, 0, 1, 1), (0, 0, 1, 1))
        for word in ("shut", "hidden"):
            sheet = (part("p", part("q", *level), word=word),)
            for name in "abq":
                self.tells(sheet, name, True, True)
        self.tells((part("p", part("q", *level)),), "a", False, False)

    def test_other_levels_dont_count(self):
        level = of_boxes((0, 0, 1, 1), (0, 0, 1, 1))
        sheet = (part("p", *level, box=(0, 0, 4, 4)), part("q", part("r"), box=(9, 0, 4, 4)))
        self.tells(sheet, "a", False, False)
        for name in "pqr":
            self.tells(sheet, name, True, True)

    def test_no_part(self):
        for ask in (is_lattice, is_full):
            for sheet in ((), DEEP):
                for name in ("x", "", "A", "x" * 8000):
                    self.assertEqual(self.refused(NoPart, ask, sheet, name).name, name)


class ByChance(Lattices):
    def compare(self, sheet):
        """Each level is told as a plain telling has it, and as [19] says of strays and links."""
        chains = plain_open(sheet)
        kinds = []
        for chain in with_chains(sheet):
            name, outer = chain[-1][0], chain[:-1]
            level = {other: found[-1][1] for other, found in chains.items() if found[:-1] == outer}
            boxes = list(level.values())
            self.tells(sheet, name, plain_lattice(boxes), plain_full(boxes))
            if is_full(sheet, name):
                self.assertIs(is_linked(sheet, name), True)
            if is_lattice(sheet, name):
                self.no_stray_in_the_beam(sheet, level)
            kinds.append((len(boxes) > 1, is_lattice(sheet, name), is_full(sheet, name)))
        return kinds

    def no_stray_in_the_beam(self, sheet, names):
        for name, way, to, back in strays(sheet):
            if name in names:
                near = lies(part_of(sheet, name)[1], part_of(sheet, to)[1], way)
                self.assertEqual(near[0], 1)

    def enough(self, told, *kinds):
        for kind in kinds:
            self.assertGreater(told.count(kind), 10, kind)

    def test_any_sheets(self):
        kinds = []
        for sheet in chance_sheets(22, 200, 12, free=0.85, room=5):
            kinds += self.compare(sheet)
        self.enough(kinds, SEVERAL_CROSSED, SEVERAL_MIXED, FEW)

    def test_lattices_some_of_them_spoilt(self):
        chance = random.Random(23)
        kinds = []
        for turn in range(80):
            columns = [(4 * at + chance.randint(0, 1), chance.randint(1, 3)) for at in range(4)]
            rows = [(4 * at, chance.randint(1, 4)) for at in range(4)]
            boxes = grid(columns[:chance.randint(1, 4)], rows[:chance.randint(1, 4)])
            boxes = boxes[chance.choice([0, 0, 1, 3]):]
            if chance.random() < 0.3:
                boxes.append(chance_box(chance, 12))
            chance.shuffle(boxes)
            level = tuple(part(name, box=box, word=chance.choice(["free"] * 25 + ["shut"]))
                          for name, box in zip(many_names(len(boxes)), boxes))
            kinds += self.compare(with_level(chance.randint(1, 5), level))
        self.enough(kinds, SEVERAL_FULL, SEVERAL_CROSSED, SEVERAL_MIXED)


if __name__ == "__main__":
    unittest.main()
