"""Sheets as texts, and texts as sheets [2, 3, 8]."""

import random
import re
import unittest

from focuswalk.checks import checked
from focuswalk.errors import FocusError, MustRing, NoHead, NoText, TooMany, Twice
from focuswalk.texts import read, shown
from tests.asking import Asking
from tests.samples import (DEEP, GREATEST, branching, buried, chance_sheets, flat, many_names,
                           part)

SAVE = "1 save 0 40 16 8 free 0 -"
LINES = ["0 form 0 8 80 60 shut 2 title", SAVE, "0 title 0 0 80 8 hidden 0 -"]
SHEET = (("form", (0, 8, 80, 60), "shut", 2, "title",
          (("save", (0, 40, 16, 8), "free", 0, None, ()),)),
         ("title", (0, 0, 80, 8), "hidden", 0, None, ()))

NO_NUMBERS = ("", "-", "-0", "+0", "+1", "00", "007", "01", "-01", "-007", "--1", "1-", "1+", "1.0",
              "1.", "1e3", "0x1", "1_0", "a", "-a", "1a", "a1", "#1", "1,0", "None", "9" * 61,
              "-" + "9" * 61, "1" + "0" * 60, "-1" + "0" * 60, "0" * 60, "9" * 5000)

AMISS = {
    0: ("5", "6", "9", "2", "3", "4", "10", "01", "00", "-0", "-1", "+1", "", "-", "a", "1.0", "1a",
        "012", "12", "1" * 61),
    1: ("", "-", "Save", "savE", "SAVE", "abcdefghi", "save1", "1", "sa-ve", "sa_ve", "save;", "save."),
    2: NO_NUMBERS,
    3: NO_NUMBERS,
    4: NO_NUMBERS + ("0", "-1", "-" + "9" * 60),
    5: NO_NUMBERS + ("0", "-1", "-" + "9" * 60),
    6: ("", "-", "open", "Free", "FREE", "fre", "freee", "free,", "fre e", "shuthidden", "hid", "0"),
    7: NO_NUMBERS + ("-1", "-" + "9" * 60),
    8: ("", "--", "-a", "a-", "Title", "abcdefghi", "title1", "0", "1", "None", "_"),
}


def swapped(line, at, word):
    """The line with another word number at."""
    words = line.split(" ")
    words[at] = word
    return " ".join(words)


def text_of(*lines):
    return "\n".join(lines)


class Shown(Asking):
    def test_sheet_without_parts(self):
        self.assertEqual(shown(()), "")

    def test_line_of_the_document(self):
        sheet = (part("a", part("save", box=(0, 40, 16, 8))),)
        self.assertEqual(shown(sheet), "0 a 0 0 1 1 free 0 -\n1 save 0 40 16 8 free 0 -")

    def test_words_ranks_and_heads(self):
        self.assertEqual(shown(SHEET), text_of(*LINES))

    def test_five_deep(self):
        self.assertEqual(shown(buried(part("a"), 5)).split("\n"),
                         ["0 zz 0 0 1 1 free 0 -", "1 zy 0 0 1 1 free 0 -", "2 zx 0 0 1 1 free 0 -",
                          "3 zw 0 0 1 1 free 0 -", "4 a 0 0 1 1 free 0 -"])
        self.assertEqual([line.split(" ")[:2] for line in shown(DEEP).split("\n")],
                         [["0", "a"], ["1", "ab"], ["2", "abc"], ["3", "abcd"], ["4", "abcde"],
                          ["4", "abcdef"], ["3", "b"], ["1", "ac"], ["0", "abcdefgh"], ["0", "c"],
                          ["1", "ca"], ["1", "cb"], ["2", "cba"], ["1", "cc"]])

    def test_forty_parts(self):
        self.assertEqual(shown(flat(40)),
                         text_of(*[f"0 {name} 0 0 1 1 free 0 -" for name in many_names(40)]))
        self.assertEqual(len(shown(branching(40)).split("\n")), 40)

    def test_numbers(self):
        sheet = (part("a", box=(-7, -10, 100, 1), rank=20), part("b", box=(0, -1, 10, 101)))
        self.assertEqual(shown(sheet), "0 a -7 -10 100 1 free 20 -\n0 b 0 -1 10 101 free 0 -")

    def test_numbers_of_sixty_figures(self):
        nines = "9" * 60
        sheet = (part("a", box=(-GREATEST, GREATEST, GREATEST, GREATEST), rank=GREATEST),)
        self.assertEqual(shown(sheet), f"0 a -{nines} {nines} {nines} {nines} free {nines} -")

    def test_greater_numbers(self):
        for many in (61, 119, 120, 121, 180, 899, 4299, 4300, 4301, 9000):
            great = 10 ** (many - 1)
            figures = "1" + "0" * (many - 1)
            sheet = (part("a", box=(-great, great, great + 7, great), rank=great),)
            self.assertTrue(shown(sheet) == f"0 a -{figures} {figures} {figures[:-1]}7 {figures} "
                                            f"free {figures} -", many)

    def test_no_figure_is_lost(self):
        number = int("".join(str(digit) for digit in range(1, 10)) * 20)
        for power in range(0, 130):
            text = shown((part("a", box=(number * 10 ** power, 0, 1, 1)),))
            self.assertEqual(text, f"0 a {'123456789' * 20}{'0' * power} 0 1 1 free 0 -")

    def test_kind(self):
        self.assertIs(type(shown(())), str)
        self.assertIs(type(shown(SHEET)), str)


class Read(Asking):
    def test_text_without_signs(self):
        self.assertEqual(read(""), ())

    def test_lines(self):
        self.assertEqual(read(text_of(*LINES)), SHEET)
        self.assertEqual(read("0 a -5 0 1 2 free 3 -"), (part("a", box=(-5, 0, 1, 2), rank=3),))

    def test_tells_back_what_was_shown(self):
        great = part("a", box=(-GREATEST, GREATEST, GREATEST, GREATEST), rank=GREATEST)
        heads = (part("a", part("b", head="c")), part("c", head="d"), part("d", word="hidden"))
        for sheet in ((), (part("abcdefgh"),), SHEET, DEEP, flat(40), branching(40),
                      buried(great, 5), buried(part("y"), 5) + (part("p", part("q")),), heads):
            self.assertEqual(read(shown(sheet)), sheet)

    def test_tells_back_by_chance(self):
        for sheet in chance_sheets(8, 400, 40):
            self.assertEqual(checked(read(shown(sheet))), sheet)

    def test_forty_parts_of_the_greatest_numbers(self):
        sheet = tuple(part(name, box=(-GREATEST, -GREATEST, GREATEST, GREATEST), rank=GREATEST)
                      for name in many_names(40))
        self.assertEqual(read(shown(sheet)), sheet)

    def test_back_out_by_several_levels(self):
        depths = "0123423400121"
        names = many_names(len(depths))
        lines = [f"{depth} {name} 0 0 1 1 free 0 -" for depth, name in zip(depths, names)]
        self.assertEqual(shown(read(text_of(*lines))), text_of(*lines))

    def test_sixty_figures_in_each_number(self):
        for at in (2, 3, 4, 5, 7):
            for figures in ("9" * 60, "1" + "0" * 59):
                text = swapped("0 a 1 1 1 1 free 1 -", at, figures)
                self.assertEqual(shown(read(text)), text)
                below = swapped("0 a 1 1 1 1 free 1 -", at, "-" + figures)
                if at < 4:
                    self.assertEqual(shown(read(below)), below)
                else:
                    self.assertEqual(self.refused(NoText, read, below).line, 0)

    def test_greater_numbers_are_shown_but_not_read(self):
        for box in ((10 ** 60, 0, 1, 1), (0, -10 ** 60, 1, 1), (0, 0, 10 ** 60, 1),
                    (0, 0, 1, 10 ** 70), (0, 0, 1, 10 ** 5000)):
            text = shown((part("a"), part("b", box=box)))
            self.assertEqual(self.refused(NoText, read, text).line, 1)

    def test_kinds(self):
        sheet = read(text_of(*LINES))
        self.assertIs(type(sheet), tuple)
        name, box, word, rank, head, parts = sheet[0]
        self.assertEqual([type(thing) for thing in (name, box, word, rank, head, parts)],
                         [str, tuple, str, int, str, tuple])
        self.assertEqual([type(number) for number in box], [int] * 4)
        self.assertIs(parts[0][4], None)


class LinesThatAreNone(Asking):
    def amiss(self, number, *lines):
        self.assertEqual(self.refused(NoText, read, text_of(*lines)).line, number)

    def test_the_line_is_good_as_it_is(self):
        self.assertEqual(shown(read(text_of(*LINES))), text_of(*LINES))

    def test_each_word_amiss(self):
        for at, words in AMISS.items():
            for word in words:
                with self.subTest(f"{at} {word[:20]!r}"):
                    self.amiss(1, LINES[0], swapped(SAVE, at, word), LINES[2])
                    self.amiss(2, LINES[0], LINES[2], swapped(SAVE, at, word))

    def test_each_word_amiss_in_the_first_line(self):
        for at, words in AMISS.items():
            for word in words:
                with self.subTest(f"{at} {word[:20]!r}"):
                    self.amiss(0, swapped("0 form 0 8 80 60 shut 2 -", at, word))

    def test_line_ends_and_blanks_within_each_word(self):
        for at in range(9):
            word = SAVE.split(" ")[at]
            for cut in range(len(word) + 1):
                for sign in "\n ":
                    torn = swapped(SAVE, at, word[:cut] + sign + word[cut:])
                    # A line end behind a whole line leaves this one good.
                    number = 2 if torn == SAVE + "\n" else 1
                    with self.subTest(repr(torn)):
                        self.amiss(number, LINES[0], torn)

    def test_first_line_is_of_depth_nought(self):
        for depth in "1234":
            self.amiss(0, f"{depth} a 0 0 1 1 free 0 -")
            self.amiss(0, f"{depth} a 0 0 1 1 free 0 -", LINES[2])

    def test_at_most_one_deeper_than_the_line_ahead(self):
        for ahead in range(5):
            rows = [f"{depth} {name} 0 0 1 1 free 0 -"
                    for depth, name in zip(range(ahead + 1), "abcde")]
            for depth in range(7):
                line = f"{depth} x 0 0 1 1 free 0 -"
                if depth <= min(ahead + 1, 4):
                    self.assertEqual(shown(read(text_of(*rows, line))), text_of(*rows, line))
                else:
                    self.amiss(ahead + 1, *rows, line)

    def test_depth_hangs_on_the_line_ahead_alone(self):
        rows = [f"{depth} {name} 0 0 1 1 free 0 -" for depth, name in zip("01230", "abcde")]
        self.amiss(5, *rows, "2 x 0 0 1 1 free 0 -")
        self.assertEqual(len(read(text_of(*rows, "1 x 0 0 1 1 free 0 -"))), 2)

    def test_a_word_too_few_and_too_many(self):
        words = SAVE.split(" ")
        for at in range(9):
            self.amiss(1, LINES[0], " ".join(words[:at] + words[at + 1:]))
            self.amiss(1, LINES[0], " ".join(words[:at + 1] + words[at:]))
        self.amiss(1, LINES[0], SAVE + " -")
        self.amiss(1, LINES[0], SAVE + " a")
        self.amiss(1, LINES[0], "0")
        self.amiss(1, LINES[0], SAVE + " " + SAVE)

    def test_blanks(self):
        for at in range(8):
            words = SAVE.split(" ")
            words[at] += " "
            self.amiss(1, LINES[0], " ".join(words))
        for line in (" " + SAVE, SAVE + " ", "  " + SAVE, SAVE + "  ", " " + SAVE[2:], SAVE[:-1],
                     " ", " " * 8, " " * 9):
            with self.subTest(repr(line)):
                self.amiss(1, LINES[0], line, LINES[2])

    def test_line_ends(self):
        text = text_of(*LINES)
        self.amiss(0, "\n" + text)
        self.amiss(3, text + "\n")
        self.amiss(3, text + "\n\n")
        self.amiss(1, LINES[0] + "\n", LINES[1])
        self.amiss(2, *LINES[:2], "", LINES[2])
        self.amiss(0, "\n")
        self.amiss(0, "\n\n")
        self.amiss(0, " ")

    def test_other_partings(self):
        for sign in (";", "; ", ",", "\n\n", " "):
            self.refused(NoText, read, sign.join(LINES))
        for sign in (",", "_", "-", ";", ""):
            self.amiss(0, LINES[2].replace(" ", sign))

    def test_the_first_such_line(self):
        bad = swapped(SAVE, 7, "-1")
        self.amiss(1, LINES[0], bad, bad)
        self.amiss(1, LINES[0], bad, "")
        self.amiss(0, bad, bad)
        self.amiss(39, *shown(flat(39)).split("\n"), bad)
        # The line behind a bad one is not looked at, however deep it would be.
        self.amiss(1, LINES[0], swapped(SAVE, 0, "2"), swapped(SAVE, 0, "3"))

    def test_long_texts(self):
        self.amiss(0, "a" * 8000)
        self.amiss(0, " " * 8000)
        self.amiss(0, "\n" * 8000)
        self.amiss(0, "9" * 8000)


class ThenAsSheetsAreChecked(Asking):
    def test_too_many(self):
        for many in (41, 60, 300):
            self.assertEqual(self.refused(TooMany, read, shown(flat(many))).many, many)
        self.assertEqual(self.refused(TooMany, read, shown(branching(41))).many, 41)

    def test_twice(self):
        sheet = (part("a", part("b")), part("c", part("b")), part("a"))
        self.assertEqual(self.refused(Twice, read, shown(sheet)).name, "b")

    def test_no_head(self):
        for sheet in ((part("b"), part("a", head="x")), (part("a", head="a"),),
                      (part("b", part("a", head="b")),), (part("a", part("b"), head="b"),)):
            self.assertEqual(self.refused(NoHead, read, shown(sheet)).name, "a")

    def test_must_ring(self):
        sheet = (part("a", head="b"), part("b", head="a"))
        self.assertEqual(sorted(self.refused(MustRing, read, shown(sheet)).names), ["a", "b"])

    def test_all_lines_ahead_of_these(self):
        ring = (part("x", head="y"), part("y", head="x"))
        for sheet in (flat(41), (part("a"), part("a")), (part("a", head="x"),), ring):
            lines = shown(sheet).split("\n")
            for at in range(len(lines) + 1):
                for bad in ("", SAVE[:-2], "0 b 0 0 1 0 free 0 -", "0 b 00 0 1 1 free 0 -"):
                    text = text_of(*lines[:at], bad, *lines[at:])
                    self.assertEqual(self.refused(NoText, read, text).line, at)


NUMBER = r"(?:0|-?[1-9][0-9]{0,59})"
SIZE = r"[1-9][0-9]{0,59}"
LINE = re.compile(rf"([0-4]) [a-z]{{1,8}} {NUMBER} {NUMBER} {SIZE} {SIZE} (?:free|shut|hidden) "
                  rf"(?:0|{SIZE}) (?:-|[a-z]{{1,8}})")


def first_bad_line(text):
    """The number of the first line amiss, told by a pattern; None where there is none."""
    most = 0
    for number, line in enumerate(text.split("\n") if text else []):
        found = LINE.fullmatch(line)
        if found is None or int(found[1]) > most:
            return number
        most = int(found[1]) + 1
    return None


class ByChance(Asking):
    def test_texts_with_a_sign_or_two_changed(self):
        chance = random.Random(81)
        counts = {"good": 0, "bad": 0, "refused": 0}
        for sheet in chance_sheets(82, 4000, 6):
            text = shown(sheet)
            for turn in range(chance.choice([1, 1, 1, 2])):
                start = chance.randint(0, len(text))
                end = start + chance.choice([0, 1, 1, 2])
                sign = chance.choice(["", " ", "\n", "-", "0", "1", "2", "a", "b", "5", "9", "aa"])
                text = text[:start] + sign + text[end:]
            bad = first_bad_line(text)
            if bad is not None:
                counts["bad"] += 1
                self.assertEqual(self.refused(NoText, read, text).line, bad, text)
                continue
            try:
                told = read(text)
            except FocusError as refusal:
                counts["refused"] += 1
                self.assertIn(type(refusal), (Twice, NoHead, MustRing), text)
                continue
            counts["good"] += 1
            self.assertEqual(shown(told), text)
        self.assertGreater(min(counts.values()), 20, counts)


if __name__ == "__main__":
    unittest.main()
