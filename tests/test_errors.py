"""The refusals and their fields [3, interface]."""

import unittest

from focuswalk import errors

PLAIN = ("NoSheet", "NoDeed", "NoPlace", "NoKey", "NoLine")
FIELDS = {
    "TooMany": ("many", 41),
    "Twice": ("name", "ab"),
    "NoHead": ("name", "ab"),
    "MustRing": ("names", ["a", "b"]),
    "NoText": ("line", 0),
    "NoPart": ("name", "no such, 1"),
    "NotOpen": ("why", ("shut", "ab")),
    "NoWay": ("names", ["a"]),
}


class Refusals(unittest.TestCase):
    def test_base_is_a_value_error(self):
        self.assertEqual(errors.FocusError.__bases__, (ValueError,))

    def test_each_stands_straight_under_the_base(self):
        for name in [*PLAIN, *FIELDS]:
            with self.subTest(name):
                self.assertEqual(getattr(errors, name).__bases__, (errors.FocusError,))

    def test_thirteen_and_no_more(self):
        self.assertEqual({kind.__name__ for kind in errors.FocusError.__subclasses__()},
                         {*PLAIN, *FIELDS})
        self.assertEqual(len({*PLAIN, *FIELDS}), 13)

    def test_fields_are_set(self):
        for name, (field, value) in FIELDS.items():
            with self.subTest(name):
                refusal = getattr(errors, name)(value)
                self.assertEqual(vars(refusal), {field: value})

    def test_without_fields(self):
        for name in PLAIN:
            with self.subTest(name):
                self.assertEqual(vars(getattr(errors, name)("why")), {})

    def test_each_is_caught_by_its_own_class_alone(self):
        kinds = [getattr(errors, name) for name in [*PLAIN, *FIELDS]]
        values = ["why"] * len(PLAIN) + [value for field, value in FIELDS.values()]
        for kind, value in zip(kinds, values):
            refusal = kind(value)
            self.assertIsInstance(refusal, errors.FocusError)
            self.assertIsInstance(refusal, ValueError)
            self.assertEqual([other for other in kinds if isinstance(refusal, other)], [kind])


if __name__ == "__main__":
    unittest.main()
