"""Musts, and what is a sheet that fits [2, 3, 7]."""

import random
import unittest

from focuswalk.checks import checked, musts_of
from focuswalk.errors import FocusError, MustRing, NoHead, NoSheet, TooMany, Twice
from tests.samples import (DEEP, GREATEST, branching, buried, flat, many_names, part,
                           with_thing)


def plain_musts(parts):
    """The musts, told in another way than the program does: from each part's own parts."""
    pairs = []
    for name, box, word, rank, head, inner in parts:
        if head is not None:
            pairs.append((head, name))
        pairs += [(name, one[0]) for one in inner] + plain_musts(inner)
    return pairs


def go_round(pairs):
    """Whether pairs go round, by all rows of them."""
    reached = set(pairs)
    while True:
        more = reached | {(a, d) for a, b in reached for c, d in pairs if b == c}
        if more == reached:
            return any(a == b for a, b in reached)
        reached = more


class Refused(unittest.TestCase):
    def refused(self, kind, thing):
        with self.assertRaises(FocusError) as caught:
            checked(thing)
        self.assertIs(type(caught.exception), kind)
        return caught.exception

    def told_back(self, sheet):
        self.assertIs(checked(sheet), sheet)

    def ring_fits(self, sheet):
        names = self.refused(MustRing, sheet).names
        musts = plain_musts(sheet)
        self.assertIs(type(names), list)
        self.assertGreaterEqual(len(names), 2)
        self.assertEqual(len(set(names)), len(names))
        for one, other in zip(names, names[1:] + names[:1]):
            self.assertIn((one, other), musts)
        return names


class FittingSheets(Refused):
    def test_told_back_as_handed_in(self):
        heads = (part("a", part("b", head="c")), part("c", head="d"), part("d"))
        for sheet in ((), (part("a"),), DEEP, flat(40), branching(40), heads):
            self.told_back(sheet)

    def test_all_words(self):
        for word in ("free", "shut", "hidden"):
            self.told_back((part("a", part("b", word=word), word=word),))

    def test_bounds_of_numbers(self):
        self.told_back((part("a", box=(0, 0, 1, 1), rank=0),))
        self.told_back((part("a", box=(-1, -1, 1, 1), rank=1),))
        self.told_back((part("a", box=(-GREATEST, GREATEST, GREATEST, GREATEST), rank=GREATEST),))
        self.told_back(buried(part("a", box=(GREATEST, -GREATEST, 1, GREATEST)), 5))

    def test_boxes_may_lie_anywhere(self):
        self.told_back((part("a", part("b", box=(100, 100, 9, 9)), part("c", box=(0, 0, 50, 50)),
                             box=(0, 0, 1, 1)),))

    def test_five_deep(self):
        self.told_back(buried(part("a"), 5))


class NoSheets(Refused):
    def test_things_that_are_no_sheets_at_all(self):
        for thing in (None, True, False, 0, 7, "", "a", "sheet", b"a", 1.5, [], {}, set(),
                      [part("a")], {"a": part("a")}, object(), part, (None,), ("a",), ((),),
                      (1, 2), ([],), part("a"), (list(part("a")),), ((part("a"),),),
                      (part("a"), None), (part("a"), ())):
            with self.subTest(repr(thing)):
                self.refused(NoSheet, thing)

    def test_a_list_that_has_itself(self):
        ring = []
        ring.append(ring)
        self.refused(NoSheet, ring)
        self.refused(NoSheet, (ring,))
        self.refused(NoSheet, (with_thing(5, ring),))

    def test_things_nested_thirty_deep(self):
        thing = ()
        for deep in range(30):
            thing = (thing,)
        self.refused(NoSheet, thing)
        inner = part("a")
        for deep in range(14):
            inner = part("a", inner)
        self.refused(NoSheet, (inner,))

    def refused_at_any_depth(self, at, things):
        for thing in things:
            for deep in range(1, 6):
                with self.subTest(f"{thing!r}, {deep} deep"):
                    self.refused(NoSheet, buried(with_thing(at, thing), deep))
                    self.refused(NoSheet, (part("y"), *buried(with_thing(at, thing), deep)))

    def test_names(self):
        self.refused_at_any_depth(0, (None, True, 1, "", "A", "a1", "a b", "a\n", "-", "a" * 9,
                                      b"a", ["a"], ("a",), "\u00e9"))

    def test_boxes(self):
        self.refused_at_any_depth(1, (None, True, 1, "0 0 1 1", [0, 0, 1, 1], (), (0, 0, 1),
                                      (0, 0, 1, 1, 1), {0: 0}))

    def test_each_number_of_a_box(self):
        for at in range(4):
            for thing in (None, True, False, "1", 1.0, [1], (1,), b"1"):
                box = (5,) * at + (thing,) + (5,) * (3 - at)
                self.refused_at_any_depth(1, (box,))

    def test_wide_and_high(self):
        self.refused_at_any_depth(1, ((0, 0, 0, 1), (0, 0, 1, 0), (0, 0, -1, 1), (0, 0, 1, -1),
                                      (0, 0, -GREATEST, 1), (0, 0, 1, -GREATEST)))

    def test_words(self):
        self.refused_at_any_depth(2, (None, True, 0, "", "Free", "open", "free ", "fre", "hid",
                                      "free\n", ["free"], ("free",), b"free"))

    def test_ranks(self):
        self.refused_at_any_depth(3, (None, True, False, "0", "", -1, -GREATEST, 1.0, [0], (0,)))

    def test_heads(self):
        self.refused_at_any_depth(4, (False, True, 0, "", "-", "A", "a" * 9, "a b", b"b", ["b"],
                                      ("b",), ()))

    def test_parts(self):
        self.refused_at_any_depth(5, (None, False, True, 0, "", "b", [], [part("b")], {},
                                      part("b"), (None,), ((),), (part("b"), 1)))

    def test_a_thing_too_few_or_too_many(self):
        for broken in (part("a")[:5], part("a")[1:], part("a") + (None,), part("a") + ((),),
                       list(part("a"))):
            for deep in range(1, 6):
                self.refused(NoSheet, buried(broken, deep))

    def test_six_deep(self):
        self.refused(NoSheet, buried(part("a"), 6))
        self.refused(NoSheet, (part("y"), *buried(part("a"), 6)))

    def test_refused_with_its_own_class_alone(self):
        refusal = self.refused(NoSheet, None)
        self.assertIsInstance(refusal, ValueError)


class TooManyParts(Refused):
    def test_forty_and_more(self):
        self.told_back(flat(40))
        for many in (41, 42, 100, 300):
            self.assertEqual(self.refused(TooMany, flat(many)).many, many)

    def test_parts_within_count(self):
        self.told_back(branching(40))
        self.assertEqual(self.refused(TooMany, branching(41)).many, 41)
        self.assertEqual(self.refused(TooMany, (part("x", *flat(40)),)).many, 41)
        self.told_back((part("x", *flat(39)),))


class NamesTwice(Refused):
    def test_beside_one_another(self):
        self.assertEqual(self.refused(Twice, (part("a"), part("a"))).name, "a")

    def test_within_and_further_on(self):
        self.assertEqual(self.refused(Twice, (part("a", part("a")),)).name, "a")
        self.assertEqual(self.refused(Twice, buried(part("zx"), 5)).name, "zx")
        sheet = (part("a", part("b", part("c"))), part("d", part("e", part("c"))))
        self.assertEqual(self.refused(Twice, sheet).name, "c")

    def test_first_part_that_has_a_name_from_ahead(self):
        sheet = (part("a"), part("b"), part("b"), part("a"))
        self.assertEqual(self.refused(Twice, sheet).name, "b")
        sheet = (part("a"), part("b"), part("c", part("a")), part("b"))
        self.assertEqual(self.refused(Twice, sheet).name, "a")
        sheet = (part("a", part("x", part("y"))), part("y"), part("x"))
        self.assertEqual(self.refused(Twice, sheet).name, "y")

    def test_beginnings_of_one_another_are_unlike(self):
        self.told_back((part("a"), part("ab"), part("abc", part("abcd")), part("b")))


class Heads(Refused):
    def test_no_parts_name(self):
        self.assertEqual(self.refused(NoHead, (part("a", head="b"),)).name, "a")
        sheet = (part("ab"), part("b", head="a"))
        self.assertEqual(self.refused(NoHead, sheet).name, "b")

    def test_its_own_name(self):
        self.assertEqual(self.refused(NoHead, (part("a", head="a"),)).name, "a")
        self.assertEqual(self.refused(NoHead, buried(part("a", head="a"), 4)).name, "a")

    def test_one_around_it(self):
        for head in ("zw", "zx", "zy", "zz"):
            self.assertEqual(self.refused(NoHead, buried(part("a", head=head), 5)).name, "a")

    def test_one_within_it(self):
        for deep in range(1, 5):
            inner = buried(part("b"), deep)[0]
            sheet = (part("a", inner, head="b"),)
            self.assertEqual(self.refused(NoHead, sheet).name, "a")

    def test_heads_that_fit(self):
        self.told_back((part("a", head="b"), part("b")))
        self.told_back((part("a"), part("b", head="a")))
        self.told_back((part("a", part("b"), part("c", head="b")),))
        self.told_back((part("a", part("b")), part("c", part("d"), head="b")))
        self.told_back((part("a", part("b", head="d")), part("c", part("d"))))
        self.told_back((part("a"), part("b", head="a"), part("c", head="a")))

    def test_places_that_look_alike(self):
        # (0, 1) and (1, 0), and (1,) and (11,): neither is the other's beginning.
        self.told_back((part("a", part("b"), part("c", head="e")), part("d", part("e"))))
        outer = flat(11) + (part("x", part("y"), head="ab"),)
        self.told_back(outer)

    def test_first_part_by_the_sheets_order(self):
        sheet = (part("a", part("b", part("c", head="x"))), part("d", head="d"),
                 part("e", head="y"))
        self.assertEqual(self.refused(NoHead, sheet).name, "c")
        sheet = (part("a"), part("b", part("c", head="b"), head="c"))
        self.assertEqual(self.refused(NoHead, sheet).name, "b")


class Rings(Refused):
    def test_two_heads(self):
        names = self.ring_fits((part("a", head="b"), part("b", head="a")))
        self.assertEqual(sorted(names), ["a", "b"])

    def test_three_heads_both_ways_round(self):
        for heads in ("bca", "cab"):
            sheet = tuple(part(name, head=head) for name, head in zip("abc", heads))
            self.assertEqual(sorted(self.ring_fits(sheet)), ["a", "b", "c"])

    def test_a_ring_of_forty(self):
        names = many_names(40)
        sheet = tuple(part(name, head=names[at - 1]) for at, name in enumerate(names))
        self.assertEqual(sorted(self.ring_fits(sheet)), names)

    def test_through_a_part_around(self):
        sheet = (part("a", part("b"), head="c"), part("c", head="b"))
        self.assertEqual(sorted(self.ring_fits(sheet)), ["a", "b", "c"])
        sheet = (part("a", part("b"), head="d"), part("c", part("d"), head="b"))
        self.assertEqual(sorted(self.ring_fits(sheet)), ["a", "b", "c", "d"])

    def test_through_parts_around_parts(self):
        deep = part("a", part("b", part("c", part("d", part("e")))), head="x")
        self.assertEqual(len(self.ring_fits((deep, part("x", head="e")))), 6)
        inner = (part("y", part("p", part("q"), head="s"), part("r", part("s"), head="q")),)
        self.assertEqual(sorted(self.ring_fits(inner)), ["p", "q", "r", "s"])

    def test_with_much_ahead_and_behind(self):
        sheet = (part("k", head="a"), part("l", head="k"), part("m", part("n")),
                 part("a", head="b"), part("b", part("o"), head="c"),
                 part("c", part("q", head="n"), head="a"), part("r", head="q"))
        self.assertEqual(sorted(self.ring_fits(sheet)), ["a", "b", "c"])

    def test_two_rings(self):
        sheet = (part("a", head="b"), part("b", head="a"), part("c", head="d"),
                 part("d", head="c"))
        self.assertIn(sorted(self.ring_fits(sheet)), (["a", "b"], ["c", "d"]))

    def test_musts_that_dont_go_round(self):
        names = many_names(40)
        ahead = tuple(part(name, head=head) for name, head in zip(names, [None] + names))
        behind = tuple(part(name, head=head) for name, head in zip(names, names[1:] + [None]))
        two_rows = (part("a", part("b")), part("c", part("d", head="b"), head="a"))
        crossed = (part("a", part("b", head="d")), part("c", part("d")))
        for sheet in (ahead, behind, two_rows, crossed):
            self.told_back(sheet)

    def test_a_ring_told_is_the_askers_own(self):
        sheet = (part("a", head="b"), part("b", head="a"))
        names = self.ring_fits(sheet)
        names.clear()
        self.assertEqual(len(self.ring_fits(sheet)), 2)
        self.assertEqual(names, [])


class FirstToldGoesFirst(Refused):
    def test_no_sheet_ahead_of_all(self):
        broken = with_thing(3, -1, name="x")
        self.refused(NoSheet, (*flat(41), broken))
        self.refused(NoSheet, (part("a"), part("a"), broken))
        self.refused(NoSheet, (part("a", head="b"), broken))
        self.refused(NoSheet, (part("a", head="b"), part("b", head="a"), broken))

    def test_too_many_ahead_of_twice_heads_and_rings(self):
        self.assertEqual(self.refused(TooMany, (part("a"),) * 41).many, 41)
        self.assertEqual(self.refused(TooMany, (part("x", head="x"), *flat(40))).many, 41)
        ring = (part("x", head="y"), part("y", head="x"))
        self.assertEqual(self.refused(TooMany, ring + flat(39)).many, 41)

    def test_twice_ahead_of_heads_and_rings(self):
        sheet = (part("a", head="x"), part("b"), part("b"))
        self.assertEqual(self.refused(Twice, sheet).name, "b")
        sheet = (part("a", head="b"), part("b", head="a"), part("b"))
        self.assertEqual(self.refused(Twice, sheet).name, "b")

    def test_heads_ahead_of_rings(self):
        sheet = (part("a", head="b"), part("b", head="a"), part("c", head="x"))
        self.assertEqual(self.refused(NoHead, sheet).name, "c")
        sheet = (part("a", part("b", head="a")),)
        self.assertEqual(self.refused(NoHead, sheet).name, "b")


class Musts(unittest.TestCase):
    def musts(self, sheet):
        told = musts_of(sheet)
        self.assertIs(type(told), list)
        for pair in told:
            self.assertIs(type(pair), tuple)
        return sorted(told)

    def test_none(self):
        self.assertEqual(self.musts(()), [])
        self.assertEqual(self.musts((part("a"), part("b"))), [])

    def test_of_parts_directly_within(self):
        sheet = (part("a", part("b", part("c")), part("d")), part("e"))
        self.assertEqual(self.musts(sheet), [("a", "b"), ("a", "d"), ("b", "c")])

    def test_of_heads(self):
        sheet = (part("a", head="c"), part("b", head="c"), part("c", head="d"), part("d"))
        self.assertEqual(self.musts(sheet), [("c", "a"), ("c", "b"), ("d", "c")])

    def test_of_both(self):
        sheet = (part("a", part("b", head="d"), head="c"), part("c", part("d")))
        self.assertEqual(self.musts(sheet), [("a", "b"), ("c", "a"), ("c", "d"), ("d", "b")])

    def test_of_musts_that_go_round(self):
        sheet = (part("a", part("b"), head="c"), part("c", head="b"))
        self.assertEqual(self.musts(sheet), [("a", "b"), ("b", "c"), ("c", "a")])

    def test_of_forty_parts(self):
        self.assertEqual(self.musts(branching(40)), sorted(plain_musts(branching(40))))
        self.assertEqual(len(self.musts(branching(40))), 35)

    def test_list_is_the_askers_own(self):
        sheet = (part("a", part("b")),)
        musts_of(sheet).clear()
        self.assertEqual(musts_of(sheet), [("a", "b")])


def chance_parts(chance, names, deep):
    """Parts that take names away from the list."""
    parts = []
    for turn in range(chance.randint(0, 1) if deep > 1 else 5):
        if not names:
            break
        name = names.pop(chance.randrange(len(names)))
        inner = chance_parts(chance, names, deep + 1) if deep < 5 else ()
        parts.append(part(name, *inner))
    return tuple(parts)


def with_heads(chance, parts, heads):
    """The parts, some of them with one of these heads."""
    return tuple(part(one[0], *with_heads(chance, one[5], heads),
                      head=chance.choice(heads) if chance.random() < 0.3 else None)
                 for one in parts)


def named_places(parts, outer=()):
    """Rows (name, head, names around) by the sheet's order."""
    rows = []
    for one in parts:
        rows.append((one[0], one[4], outer))
        rows += named_places(one[5], outer + (one[0],))
    return rows


def first_wrong_head(sheet):
    """The first part whose head can't be its head, or None."""
    rows = named_places(sheet)
    outer = {name: names for name, head, names in rows}
    for name, head, names in rows:
        if head is None:
            continue
        if head not in outer or head == name or head in names or name in outer[head]:
            return name
    return None


class ByChance(Refused):
    def test_as_a_plain_telling_has_it(self):
        chance = random.Random(7)
        kinds = {"fits": 0, "head": 0, "ring": 0}
        for turn in range(6000):
            bare = chance_parts(chance, many_names(chance.randint(1, 12)), 1)
            heads = [name for name, head, names in named_places(bare)] * 9 + ["x"]
            sheet = with_heads(chance, bare, heads)
            wrong = first_wrong_head(sheet)
            if wrong is not None:
                kinds["head"] += 1
                self.assertEqual(self.refused(NoHead, sheet).name, wrong)
                continue
            self.assertEqual(sorted(musts_of(sheet)), sorted(plain_musts(sheet)))
            if go_round(plain_musts(sheet)):
                kinds["ring"] += 1
                self.ring_fits(sheet)
            else:
                kinds["fits"] += 1
                self.told_back(sheet)
        self.assertGreater(min(kinds.values()), 100, kinds)


if __name__ == "__main__":
    unittest.main()
