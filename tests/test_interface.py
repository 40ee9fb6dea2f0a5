"""All that the document's interface lists stands where it says, and changes nothing handed in [2, 3]."""

import importlib
import inspect
import unittest

from focuswalk.texts import shown
from tests.asking import Asking
from tests.samples import DEEP, ONE_WAY, chance_sheets, part, with_words

FUNCTIONS = {
    "sheets": {"is_name": 1, "names_of": 1, "part_of": 2, "place_of": 2, "around": 2, "level_of": 2, "inner_of": 2},
    "checks": {"musts_of": 1, "checked": 1},
    "texts": {"shown": 1, "read": 1},
    "views": {"is_seen": 2, "is_open": 2, "why_not": 2, "open_parts": 1},
    "walks": {"walk": 1, "on_from": 2, "back_from": 2},
    "boxes": {"lies": 3},
    "ways": {"nearest": 3, "into": 2, "out_of": 2, "opposite": 1, "goes": 3},
    "layers": {"layers": 2, "unled": 1, "is_linked": 2},
    "rows": {"row_to": 3, "parted": 1},
    "strays": {"strays": 1},
    "lattices": {"is_lattice": 2, "is_full": 2},
    "turned": {"mirrored": 1, "turned_over": 1, "shifted": 3, "grown": 2},
    "deeds": {"done": 2},
    "changes": {"differences": 2, "stand_behind": 3},
    "readings": {"reading": 1, "heard": 3},
}
CLASSES = {
    "walkers": ("Walker", 1, {"stand": 0, "sheet": 0, "press": 1, "do": 1, "told": 0}),
    "desk": ("Desk", 0, {"say": 1}),
}

# Asked of a sheet with a part a that is open, behind the sheet.
ASKED = [("names_of",), ("part_of", "a"), ("place_of", "a"), ("around", "a"), ("level_of", "a"), ("inner_of", "a"),
         ("inner_of", None), ("musts_of",), ("checked",), ("shown",), ("is_seen", "a"), ("is_open", "a"),
         ("why_not", "a"), ("open_parts",), ("walk",), ("on_from", "a"), ("back_from", "a"), ("nearest", "a", "right"),
         ("into", "a"), ("out_of", "a"), ("goes", "a", "on"), ("layers", "a"), ("unled",), ("is_linked", "a"),
         ("row_to", "a", "a"), ("parted",), ("strays",), ("is_lattice", "a"), ("is_full", "a"), ("mirrored",),
         ("turned_over",), ("shifted", 1, 2), ("grown", 3), ("done", ("word", "a", "shut")), ("done", ("take", "a")),
         ("done", ("put", "a", 0, part("zz"))), ("differences", DEEP), ("stand_behind", DEEP, "a"), ("reading",),
         ("heard", None, "a"), ("heard", "a", "a")]


def module(name):
    return importlib.import_module(f"focuswalk.{name}")


def arguments(ask):
    return list(inspect.signature(ask).parameters.values())


class Interface(Asking):
    def takes(self, ask, many):
        kinds = arguments(ask)
        self.assertEqual(len(kinds), many)
        for kind in kinds:
            self.assertIs(kind.kind, inspect.Parameter.POSITIONAL_OR_KEYWORD)

    def test_functions(self):
        for file, rows in FUNCTIONS.items():
            for name, many in rows.items():
                with self.subTest(f"{file} {name}"):
                    self.takes(getattr(module(file), name), many)

    def test_classes(self):
        for file, (name, many, methods) in CLASSES.items():
            kind = getattr(module(file), name)
            self.takes(kind, many)
            for method, given in methods.items():
                with self.subTest(f"{name} {method}"):
                    self.takes(vars(kind)[method], given + 1)


class NothingHandedInChanges(Asking):
    def told(self, sheet, name, *given):
        asks = {ask: getattr(module(file), ask) for file, rows in FUNCTIONS.items() for ask in rows}
        return asks[name](sheet, *given)

    def spoil(self, thing):
        """Change all lists in what was told."""
        if isinstance(thing, (list, tuple)):
            for one in thing:
                self.spoil(one)
        if isinstance(thing, list):
            thing.reverse()
            thing.append("zz")

    def test_told_the_same_again(self):
        sheets = [DEEP, ONE_WAY, (part("a", part("b"), head="c"), part("c")), with_words(DEEP, {"ab": "shut"})]
        sheets += [(part("a"), *sheet) for sheet in chance_sheets(70, 20, 12)]
        for sheet in sheets:
            text = shown(sheet)
            for ask in ASKED:
                with self.subTest(ask[0]):
                    first = self.told(sheet, *ask)
                    kept = repr(first)
                    self.spoil(first)
                    self.assertEqual(repr(self.told(sheet, *ask)), kept)
            self.assertEqual(shown(sheet), text)


if __name__ == "__main__":
    unittest.main()
