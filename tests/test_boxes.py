"""Where a box lies, and how near [2, 3, 12]."""

import itertools
import unittest

from focuswalk.boxes import lies
from focuswalk.errors import NoKey
from tests.asking import Asking
from tests.plain import plain_lies
from tests.samples import GREATEST

BOX = (10, 20, 4, 6)
SIDES = ("up", "down", "left", "right")


class EachWay(Asking):
    def told(self, other):
        """How near the box lies to BOX by up, down, left and right."""
        return [lies(BOX, other, way) for way in SIDES]

    def test_straight_beside(self):
        self.assertEqual(self.told((10, 10, 4, 6)), [(0, 4, 0), None, None, None])
        self.assertEqual(self.told((10, 29, 4, 6)), [None, (0, 3, 0), None, None])
        self.assertEqual(self.told((1, 20, 4, 6)), [None, None, (0, 5, 0), None])
        self.assertEqual(self.told((16, 20, 4, 6)), [None, None, None, (0, 2, 0)])

    def test_touching_edges(self):
        self.assertEqual(self.told((10, 18, 4, 2)), [(0, 0, 0), None, None, None])
        self.assertEqual(self.told((12, 26, 1, 1)), [None, (0, 0, 0), None, None])
        self.assertEqual(self.told((7, 21, 3, 9)), [None, None, (0, 0, 0), None])
        self.assertEqual(self.told((14, 0, 3, 21)), [None, None, None, (0, 0, 0)])

    def test_touching_corners(self):
        self.assertEqual(self.told((14, 26, 1, 1)), [None, (1, 0, 0), None, (1, 0, 0)])
        self.assertEqual(self.told((14, 15, 1, 5)), [(1, 0, 0), None, None, (1, 0, 0)])
        self.assertEqual(self.told((8, 26, 2, 2)), [None, (1, 0, 0), (1, 0, 0), None])
        self.assertEqual(self.told((9, 19, 1, 1)), [(1, 0, 0), None, (1, 0, 0), None])

    def test_askew(self):
        self.assertEqual(self.told((17, 28, 1, 1)), [None, (1, 2, 3), None, (1, 3, 2)])
        self.assertEqual(self.told((0, 0, 1, 1)), [(1, 19, 9), None, (1, 9, 19), None])

    def test_stretches_that_just_touch_are_out_of_the_beam(self):
        self.assertEqual(self.told((20, 26, 1, 1)), [None, (1, 0, 6), None, (1, 6, 0)])
        self.assertEqual(self.told((20, 25, 1, 1)), [None, None, None, (0, 6, 0)])
        self.assertEqual(self.told((20, 19, 1, 1)), [(1, 0, 6), None, None, (1, 6, 0)])
        self.assertEqual(self.told((20, 19, 1, 2)), [None, None, None, (0, 6, 0)])

    def test_room_in_common(self):
        self.assertEqual(self.told((13, 25, 9, 9)), [None] * 4)
        self.assertEqual(self.told((0, 0, 11, 21)), [None] * 4)
        self.assertEqual(self.told((0, 22, 99, 1)), [None] * 4)

    def test_one_within_the_other_and_the_same_box(self):
        self.assertEqual(self.told((11, 21, 1, 1)), [None] * 4)
        self.assertEqual(self.told((10, 20, 1, 1)), [None] * 4)
        self.assertEqual(self.told((0, 0, 99, 99)), [None] * 4)
        self.assertEqual(self.told(BOX), [None] * 4)

    def test_far_ones(self):
        great = GREATEST
        self.assertEqual(lies((0, 0, 1, 1), (great, great, great, great), "right"),
                         (1, great - 1, great - 1))
        self.assertEqual(lies((0, 0, 1, 1), (-great, -great, 1, 1), "left"),
                         (1, great - 1, great - 1))
        self.assertEqual(lies((-great, -great, 1, great), (great, -1, 1, 1), "right"),
                         (0, 2 * great - 1, 0))
        self.assertEqual(lies((-great, -great, 1, great), (great, 0, 1, 1), "right"),
                         (1, 2 * great - 1, 0))
        self.assertEqual(lies((great, great, great, great), (great, great - 1, 1, 1), "up"), (0, 0, 0))
        self.assertEqual(lies((great, great, great, great), (great, 2 * great, 1, 1), "down"), (0, 0, 0))
        self.assertIs(lies((great, great, great, great), (great, 2 * great - 1, 1, 1), "down"), None)
        # Nothing is rounded on the way.
        self.assertEqual(lies((0, 0, 1, 1), (great, 0, 1, 1), "right"), (0, great - 1, 0))

    def test_kinds(self):
        told = lies(BOX, (17, 28, 1, 1), "down")
        self.assertIs(type(told), tuple)
        self.assertEqual([type(number) for number in told], [int] * 3)
        self.assertEqual([type(number) for number in lies(BOX, (16, 20, 4, 6), "right")], [int] * 3)


class NoSuchWay(Asking):
    def test_another_way_than_the_four(self):
        for way in ("", "on", "back", "into", "out", "Up", "UP", "up ", " up", "u", "p", "ight", "up\n",
                    "updown", "up,down", "above", "below", "north", "x" * 8000):
            for other in (BOX, (16, 20, 4, 6)):
                self.refused(NoKey, lies, BOX, other, way)


class AllSmallBoxes(Asking):
    def test_as_fields_counted_have_it(self):
        starts, sizes = range(-4, 5), range(1, 4)
        for wide, high in itertools.product(sizes, repeat=2):
            box = (0, -1, wide, high)
            for other in itertools.product(starts, starts, sizes, sizes):
                for way in SIDES:
                    self.assertEqual(lies(box, other, way), plain_lies(box, other, way),
                                     (box, other, way))

    def test_the_other_way_about(self):
        opposite = {"up": "down", "down": "up", "left": "right", "right": "left"}
        starts, sizes = range(-4, 5), range(1, 3)
        for other in itertools.product(starts, starts, sizes, sizes):
            for way in SIDES:
                self.assertEqual(lies((0, 0, 2, 1), other, way), lies(other, (0, 0, 2, 1), opposite[way]))


if __name__ == "__main__":
    unittest.main()
