"""In which order all is read aloud, and what is heard on the way to a part [2, 3, 4, 25, 26]."""

import random
import unittest

from focuswalk.checks import checked
from focuswalk.deeds import done
from focuswalk.errors import FocusError, NoPart
from focuswalk.readings import heard, reading
from tests.asking import Asking
from tests.samples import (DEEP, DEEP_NAMES, branching, buried, chance_deed, chance_sheets, flat, many_names,
                           part, with_chains, with_words)


def plain_order(sheet):
    """All names in the order of reading, by looking through all parts anew for each one."""
    rows = []
    for chain in with_chains(sheet):
        ahead = {one[0] for one in chain[-2:-1]} | ({chain[-1][4]} - {None})
        rows.append((chain[-1][0], ahead))
    told = []
    while len(told) < len(rows):
        for name, ahead in rows:
            if name not in told and ahead <= set(told):
                told.append(name)
                break
    return told


def plain_reading(sheet):
    """The rows of the reading, from the chains of parts."""
    rows = {}
    levels = {}
    for chain in with_chains(sheet):
        words = [one[2] for one in chain]
        if "hidden" not in words:
            level = levels.setdefault(tuple(one[0] for one in chain[:-1]), [])
            level.append(chain[-1][0])
            rows[chain[-1][0]] = ("shut" if "shut" in words else "free", len(chain), len(level), level)
    order = [name for name in plain_order(sheet) if name in rows]
    return [(name, *rows[name][:3], len(rows[name][3])) for name in order]


def plain_heard(sheet, one, other):
    """What is heard, from the chains of parts."""
    chains = {chain[-1][0]: chain for chain in with_chains(sheet)}
    known = {each[0] for each in chains.get(one, [])}
    told = [(each[0], "within") for each in chains[other][:-1] if each[0] not in known]
    heads = []
    head = chains[other][-1][4]
    while head:
        if all(each[2] != "hidden" for each in chains[head]):
            heads.insert(0, (head, "head"))
        head = chains[head][-1][4]
    return [*told, *heads, (other, "here")]


class Order(Asking):
    def order(self, sheet):
        self.assertIs(checked(sheet), sheet)
        return [row[0] for row in reading(sheet)]

    def test_no_part(self):
        self.assertEqual(reading(()), [])
        self.assertEqual(reading((part("a", part("b"), word="hidden"),)), [])

    def test_by_the_sheets_order(self):
        self.assertEqual(self.order(DEEP), DEEP_NAMES)
        self.assertEqual(self.order(flat(40)), many_names(40))
        self.assertEqual(self.order(branching(40)), many_names(40))

    def test_ranks_and_boxes_dont_count(self):
        sheet = (part("b", rank=2), part("a", rank=1, box=(-5, -5, 1, 1)), part("c"))
        self.assertEqual(self.order(sheet), ["b", "a", "c"])

    def test_a_head_ahead(self):
        self.assertEqual(self.order((part("a"), part("b", head="a"), part("c"))), ["a", "b", "c"])

    def test_a_head_behind(self):
        self.assertEqual(self.order((part("a", head="c"), part("b"), part("c"), part("d"))), ["b", "c", "a", "d"])
        self.assertEqual(self.order((part("a", head="b"), part("b", head="c"), part("c", head="d"), part("d"))),
                         ["d", "c", "b", "a"])

    def test_a_part_that_waits_keeps_all_within_it(self):
        sheet = (part("a", part("b", part("c"))), part("d"), part("e"))
        self.assertEqual(self.order(done(sheet, ("head", "a", "d"))), ["d", "a", "b", "c", "e"])
        self.assertEqual(self.order(done(sheet, ("head", "b", "d"))), ["a", "d", "b", "c", "e"])
        self.assertEqual(self.order(done(sheet, ("head", "c", "e"))), ["a", "b", "d", "e", "c"])

    def test_heads_of_parts_elsewhere(self):
        sheet = (part("a", part("b", head="e")), part("c", part("d"), part("e", head="f")), part("f"))
        self.assertEqual(self.order(sheet), ["a", "c", "d", "f", "e", "b"])
        sheet = (part("a", part("b", part("c", part("d", part("e", head="x"))))), part("y", part("x")))
        self.assertEqual(self.order(sheet), ["a", "b", "c", "d", "y", "x", "e"])

    def test_one_head_of_several(self):
        sheet = (part("c", head="x"), part("b", head="x"), part("x"), part("a", head="x"))
        self.assertEqual(self.order(sheet), ["x", "c", "b", "a"])

    def test_parts_that_arent_seen_are_left_out_at_the_end_alone(self):
        # a waits for c, which is hidden, and c for d.
        sheet = (part("a", head="c"), part("b"), part("c", head="d", word="hidden"), part("d"), part("e"))
        self.assertEqual(self.order(sheet), ["b", "d", "a", "e"])
        sheet = (part("a", head="c"), part("b", part("c"), word="hidden"), part("d"))
        self.assertEqual(self.order(sheet), ["a", "d"])

    def test_shut_ones_are_read(self):
        sheet = (part("a", part("b", part("c")), word="shut"), part("d"))
        self.assertEqual(self.order(sheet), ["a", "b", "c", "d"])

    def test_a_row_of_forty_heads(self):
        names = many_names(40)
        behind = tuple(part(name, head=head) for name, head in zip(names, names[1:] + [None]))
        self.assertEqual(self.order(behind), names[::-1])


class Rows(Asking):
    def test_kinds(self):
        rows = reading((part("a", part("b"), word="shut"),))
        self.assertEqual(rows, [("a", "shut", 1, 1, 1), ("b", "shut", 2, 1, 1)])
        for row in rows:
            self.assertEqual([type(thing) for thing in row], [str, str, int, int, int])
            self.assertIs(type(row), tuple)

    def test_words(self):
        sheet = (part("a", part("b", part("c"), word="shut"), part("d")), part("e", word="shut"))
        self.assertEqual([row[:2] for row in reading(sheet)],
                         [("a", "free"), ("b", "shut"), ("c", "shut"), ("d", "free"), ("e", "shut")])

    def test_deep(self):
        self.assertEqual([row[2] for row in reading(DEEP)], [1, 2, 3, 4, 5, 5, 4, 2, 1, 1, 2, 2, 3, 2])
        self.assertEqual(reading(buried(part("a"), 5))[4], ("a", "free", 5, 1, 1))

    def test_number_and_many_among_the_seen_ones(self):
        sheet = (part("a"), part("b", word="hidden"), part("c", word="shut"), part("d"),
                 part("e", part("f", word="hidden"), part("g")))
        self.assertEqual(reading(sheet),
                         [("a", "free", 1, 1, 4), ("c", "shut", 1, 2, 4), ("d", "free", 1, 3, 4),
                          ("e", "free", 1, 4, 4), ("g", "free", 2, 1, 1)])

    def test_number_goes_by_the_sheets_order_and_not_by_the_reading(self):
        sheet = (part("a", head="c"), part("b"), part("c"))
        self.assertEqual(reading(sheet), [("b", "free", 1, 2, 3), ("c", "free", 1, 3, 3), ("a", "free", 1, 1, 3)])

    def test_numbers_above_nine(self):
        rows = reading(flat(40))
        self.assertEqual([row[3:] for row in rows], [(number, 40) for number in range(1, 41)])

    def test_list_is_the_askers_own(self):
        self.own_list(reading, DEEP)
        self.own_list(reading, ())


class Heard(Asking):
    SHEET = (part("a", part("b", part("c"), part("d")), part("e")), part("f", part("g", part("h"))))

    def test_from_nowhere(self):
        self.assertEqual(heard(self.SHEET, None, "a"), [("a", "here")])
        self.assertEqual(heard(self.SHEET, None, "c"), [("a", "within"), ("b", "within"), ("c", "here")])

    def test_from_the_same_part(self):
        for name in "abcdefgh":
            self.assertEqual(heard(self.SHEET, name, name), [(name, "here")])

    def test_from_one_around(self):
        self.assertEqual(heard(self.SHEET, "a", "c"), [("b", "within"), ("c", "here")])
        self.assertEqual(heard(self.SHEET, "b", "c"), [("c", "here")])

    def test_from_one_within(self):
        self.assertEqual(heard(self.SHEET, "c", "a"), [("a", "here")])
        self.assertEqual(heard(self.SHEET, "c", "b"), [("b", "here")])

    def test_from_one_beside(self):
        self.assertEqual(heard(self.SHEET, "d", "c"), [("c", "here")])
        self.assertEqual(heard(self.SHEET, "e", "c"), [("b", "within"), ("c", "here")])
        self.assertEqual(heard(self.SHEET, "c", "e"), [("e", "here")])

    def test_from_elsewhere(self):
        self.assertEqual(heard(self.SHEET, "c", "h"), [("f", "within"), ("g", "within"), ("h", "here")])
        self.assertEqual(heard(self.SHEET, "f", "c"), [("a", "within"), ("b", "within"), ("c", "here")])

    def test_five_deep(self):
        self.assertEqual(heard(DEEP, "cc", "abcdef"), [("a", "within"), ("ab", "within"), ("abc", "within"),
                                                       ("abcd", "within"), ("abcdef", "here")])
        self.assertEqual(heard(DEEP, "b", "abcdef"), [("abcd", "within"), ("abcdef", "here")])

    def test_heads_of_heads_from_the_farthest_one_on(self):
        sheet = (part("a", head="b"), part("b", head="c"), part("c", head="d"), part("d"), part("e"))
        self.assertEqual(heard(sheet, None, "a"), [("d", "head"), ("c", "head"), ("b", "head"), ("a", "here")])
        self.assertEqual(heard(sheet, "b", "a"), [("d", "head"), ("c", "head"), ("b", "head"), ("a", "here")])
        self.assertEqual(heard(sheet, "a", "c"), [("d", "head"), ("c", "here")])
        self.assertEqual(heard(sheet, "a", "a"), [("d", "head"), ("c", "head"), ("b", "head"), ("a", "here")])

    def test_within_ahead_of_heads(self):
        sheet = (part("p", part("a", head="b")), part("b", part("c")))
        self.assertEqual(heard(sheet, "c", "a"), [("p", "within"), ("b", "head"), ("a", "here")])

    def test_heads_of_parts_around_dont_count(self):
        sheet = (part("p", part("a"), head="b"), part("b"))
        self.assertEqual(heard(sheet, None, "a"), [("p", "within"), ("a", "here")])
        self.assertEqual(heard(sheet, None, "p"), [("b", "head"), ("p", "here")])

    def test_what_is_around_a_head_doesnt_count(self):
        sheet = (part("a", head="c"), part("b", part("c")))
        self.assertEqual(heard(sheet, None, "a"), [("c", "head"), ("a", "here")])

    def test_a_hidden_one_in_the_row_of_heads(self):
        sheet = (part("a", head="b"), part("b", head="c"), part("c", head="d"), part("d"))
        self.assertEqual(heard(with_words(sheet, {"b": "hidden"}), None, "a"),
                         [("d", "head"), ("c", "head"), ("a", "here")])
        self.assertEqual(heard(with_words(sheet, {"b": "hidden", "d": "hidden"}), None, "a"),
                         [("c", "head"), ("a", "here")])
        self.assertEqual(heard(with_words(sheet, {"b": "shut", "c": "shut"}), None, "a"),
                         [("d", "head"), ("c", "head"), ("b", "head"), ("a", "here")])
        sheet = (part("a", head="b"), part("p", part("b", head="d"), word="hidden"), part("d"))
        self.assertEqual(heard(sheet, None, "a"), [("d", "head"), ("a", "here")])

    def test_a_name_that_comes_twice(self):
        sheet = (part("p", part("a", head="h")), part("h", head="p"))
        self.assertIs(checked(sheet), sheet)
        self.assertEqual(heard(sheet, None, "a"), [("p", "within"), ("p", "head"), ("h", "head"), ("a", "here")])
        self.assertEqual(heard(sheet, "p", "a"), [("p", "head"), ("h", "head"), ("a", "here")])

    def test_shut_parts_are_heard(self):
        sheet = (part("p", part("a", word="shut"), word="shut"), part("q", word="shut"))
        self.assertEqual(heard(sheet, "q", "a"), [("p", "within"), ("a", "here")])

    def test_no_part_of_the_one_first(self):
        for name in ("x", "", "A", "-"):
            self.assertEqual(self.refused(NoPart, heard, self.SHEET, name, "y").name, name)
            self.assertEqual(self.refused(NoPart, heard, self.SHEET, name, "a").name, name)
            self.assertEqual(self.refused(NoPart, heard, self.SHEET, "a", name).name, name)
            self.assertEqual(self.refused(NoPart, heard, self.SHEET, None, name).name, name)
            self.assertEqual(self.refused(NoPart, heard, (), name, "z").name, name)

    def test_list_is_the_askers_own(self):
        self.own_list(heard, self.SHEET, "c", "h")
        self.own_list(heard, self.SHEET, None, "a")
        for pair in heard(self.SHEET, None, "c"):
            self.assertIs(type(pair), tuple)


class ByChance(Asking):
    def test_readings(self):
        moved = 0
        for sheet in chance_sheets(50, 250, 20, heads=0.5):
            told = reading(sheet)
            self.assertEqual(told, plain_reading(sheet))
            names = [row[0] for row in told]
            seen = {chain[-1][0]: chain for chain in with_chains(sheet) if all(one[2] != "hidden" for one in chain)}
            self.assertEqual(sorted(names), sorted(seen))
            for at, name in enumerate(names):
                ahead = [one[0] for one in seen[name][:-1]] + [seen[name][-1][4]]
                self.assertLessEqual({one for one in ahead if one in seen}, set(names[:at]))
            moved += names != list(seen)
        self.assertGreater(moved, 50)

    def test_another_word_leaves_the_others_in_their_order(self):
        chance = random.Random(51)
        for sheet in chance_sheets(52, 120, 14, heads=0.5):
            before = [row[0] for row in reading(sheet)]
            for chain in with_chains(sheet):
                word = chance.choice(["free", "shut", "hidden"])
                after = [row[0] for row in reading(done(sheet, ("word", chain[-1][0], word)))]
                self.assertEqual([name for name in before if name in after], [name for name in after if name in before])

    def test_heard(self):
        heads = 0
        for sheet in chance_sheets(53, 120, 12, heads=0.6, free=0.8):
            seen = [row[0] for row in plain_reading(sheet)]
            for one in [None, *seen]:
                for other in seen:
                    told = heard(sheet, one, other)
                    self.assertEqual(told, plain_heard(sheet, one, other))
                    heads += len([pair for pair in told if pair[1] == "head"])
        self.assertGreater(heads, 500)

    def test_behind_deeds(self):
        chance = random.Random(54)
        for sheet in chance_sheets(55, 60, 10, heads=0.5):
            for turn in range(10):
                try:
                    sheet = done(sheet, chance_deed(chance, sheet))
                except FocusError:
                    continue
                self.assertEqual(reading(sheet), plain_reading(sheet))


if __name__ == "__main__":
    unittest.main()
