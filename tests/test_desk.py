"""The desk [2, 3, 27]."""

import random
import unittest

from focuswalk.desk import Desk
from focuswalk.errors import (FocusError, MustRing, NoDeed, NoHead, NoKey, NoLine, NoPart, NoSheet, NotOpen, NoWay,
                              TooMany, Twice)
from focuswalk.layers import unled
from focuswalk.readings import heard, reading
from focuswalk.rows import parted, row_to
from focuswalk.strays import strays
from focuswalk.texts import read, shown
from focuswalk.views import is_open
from focuswalk.walkers import Walker
from focuswalk.walks import walk
from focuswalk.ways import goes
from tests.asking import Asking
from tests.plain import KEYS
from tests.samples import GREATEST, chance_box, many_names, part

# Lines of each kind, which a desk takes that was told the lines of FORM.
LINES = ("part - zz 0 0 1 1", "part form zz 0 0 1 1", "word save shut", "box save 1 2 3 4", "rank save 1",
         "head save title", "head save -", "take save", "press on", "stand", "walk", "unled", "keys form",
         "row form save", "strays", "read", "parted", "hear save", "show")
FORM = ("part - form 0 8 80 60", "part form save 0 40 16 8", "part form quit 20 40 16 8", "part - title 0 0 80 8")
FORM_SHEET = (part("form", part("save", box=(0, 40, 16, 8)), part("quit", box=(20, 40, 16, 8)), box=(0, 8, 80, 60)),
              part("title", box=(0, 0, 80, 8)))

NO_NUMBERS = ("-", "-0", "+0", "+1", "00", "007", "01", "-01", "--1", "1-", "1.0", "1e3", "0x1", "1_0", "a", "one",
              "1,", "free", "0\n", "\n1", "9" * 61, "-" + "9" * 61, "1" + "0" * 60, "0" * 60, "9" * 5000)


class Saying(Asking):
    def desk(self, *lines):
        """A desk that has been told these lines, each of which it took."""
        desk = Desk()
        for line in lines:
            self.assertIs(type(desk.say(line)), str)
        return desk

    def form(self, *lines):
        return self.desk(*FORM, *lines)

    def says(self, desk, **answers):
        for line, answer in answers.items():
            self.assertEqual(desk.say(line), answer)

    def state(self, desk):
        """All that a desk tells of itself without a name."""
        return [desk.say(line) for line in ("show", "stand", "walk", "unled", "strays", "read", "parted")]

    def no(self, desk, kind, line):
        """Refused, and nothing has changed."""
        with self.subTest(line[:80]):
            before = self.state(desk)
            refusal = self.refused(kind, desk.say, line)
            self.assertEqual(self.state(desk), before)
            return refusal


class AtFirst(Saying):
    def test_sheet_without_parts(self):
        self.says(Desk(), show="", stand="-", walk="-", unled="-", strays="-", read="-", parted="-")

    def test_say_stands_in_the_class_itself(self):
        self.assertIn("say", vars(Desk))

    def test_keys_from_nowhere(self):
        desk = Desk()
        for key in KEYS:
            self.assertEqual(desk.say(f"press {key}"), "-")
        self.says(desk, show="", stand="-")

    def test_two_desks_side_by_side(self):
        one, other = self.form(), Desk()
        self.says(other, show="", stand="-")
        other.say("part - a 0 0 1 1")
        self.assertEqual(one.say("walk"), "form save quit title")


class DeedLines(Saying):
    def did(self, line, text):
        desk = self.form()
        self.assertEqual(desk.say(line), "ok")
        self.assertEqual(desk.say("show"), text)

    def test_part(self):
        desk = Desk()
        for line in FORM:
            self.assertEqual(desk.say(line), "ok")
        self.assertEqual(desk.say("show"), "0 form 0 8 80 60 free 0 -; 1 save 0 40 16 8 free 0 -; "
                                           "1 quit 20 40 16 8 free 0 -; 0 title 0 0 80 8 free 0 -")
        self.assertEqual(desk.say("part form help -5 -6 7 8"), "ok")
        self.assertEqual(desk.say("part help me 0 0 1 1"), "ok")
        self.assertEqual(desk.say("show"), "0 form 0 8 80 60 free 0 -; 1 save 0 40 16 8 free 0 -; "
                                           "1 quit 20 40 16 8 free 0 -; 1 help -5 -6 7 8 free 0 -; "
                                           "2 me 0 0 1 1 free 0 -; 0 title 0 0 80 8 free 0 -")

    def test_word(self):
        for word in ("shut", "hidden", "free"):
            self.did(f"word save {word}", f"0 form 0 8 80 60 free 0 -; 1 save 0 40 16 8 {word} 0 -; "
                                          "1 quit 20 40 16 8 free 0 -; 0 title 0 0 80 8 free 0 -")

    def test_box_rank_head_and_take(self):
        self.did("box title -1 -2 3 4", "0 form 0 8 80 60 free 0 -; 1 save 0 40 16 8 free 0 -; "
                                        "1 quit 20 40 16 8 free 0 -; 0 title -1 -2 3 4 free 0 -")
        self.did("rank quit 12", "0 form 0 8 80 60 free 0 -; 1 save 0 40 16 8 free 0 -; "
                                 "1 quit 20 40 16 8 free 12 -; 0 title 0 0 80 8 free 0 -")
        self.did("head save title", "0 form 0 8 80 60 free 0 -; 1 save 0 40 16 8 free 0 title; "
                                    "1 quit 20 40 16 8 free 0 -; 0 title 0 0 80 8 free 0 -")
        self.did("take form", "0 title 0 0 80 8 free 0 -")
        desk = self.form("head save title")
        self.assertEqual(desk.say("head save -"), "ok")
        self.assertEqual(desk.say("show"), self.form().say("show"))
        desk = self.form("head save title", "take title")
        self.assertIn("save 0 40 16 8 free 0 -", desk.say("show"))

    def test_numbers(self):
        nines = "9" * 60
        desk = self.desk(f"part - a -{nines} {nines} {nines} 1", f"rank a {nines}")
        self.assertEqual(desk.say("show"), f"0 a -{nines} {nines} {nines} 1 free {nines} -")
        self.assertEqual(desk.say(f"box a 0 -1 1 {nines}"), "ok")
        self.assertEqual(desk.say("show"), f"0 a 0 -1 1 {nines} free {nines} -")

    def test_stand_moves_as_the_walker_does(self):
        desk = self.form("press into", "word save shut")
        self.says(desk, stand="quit", walk="form quit title")
        desk.say("take form")
        self.says(desk, stand="title")
        desk.say("take title")
        self.says(desk, stand="-", walk="-", show="")
        desk.say("part - a 0 0 1 1")
        self.says(desk, stand="a")


class Answers(Saying):
    def test_press_and_stand(self):
        desk = self.form()
        self.says(desk, stand="form")
        for line, answer in (("press into", "save"), ("press right", "quit"), ("press right", "quit"),
                             ("press out", "form"), ("press into", "quit"), ("press on", "title"),
                             ("press back", "quit"), ("press left", "save"), ("press back", "form"),
                             ("press up", "title"), ("press down", "form")):
            self.assertEqual(desk.say(line), answer)
            self.says(desk, stand=answer)

    def test_walk_and_unled(self):
        self.says(self.form(), walk="form save quit title", unled="-")
        self.says(self.form("rank quit 1"), walk="quit form save title")
        self.says(self.form("box quit 0 40 16 8", "box title 0 8 1 1"), unled="quit title")
        self.says(self.desk("part - a 0 0 1 1"), walk="a", unled="a")
        self.says(self.form("word form hidden", "word title shut"), walk="-", unled="-", stand="-")

    def test_keys(self):
        desk = self.form()
        self.assertEqual(desk.say("keys form"),
                         "on save, back title, up title, down -, left -, right -, into save, out -")
        self.assertEqual(desk.say("keys quit"),
                         "on title, back save, up -, down -, left save, right -, into -, out form")

    def test_keys_whatever_the_walker_keeps(self):
        desk = self.form("press into", "press right", "press out")
        self.assertIn("into save", desk.say("keys form"))
        self.assertEqual(desk.say("press into"), "quit")

    def test_row(self):
        desk = self.form()
        self.assertEqual(desk.say("row title quit"), "down into right")
        self.assertEqual(desk.say("row title form"), "down")
        self.assertEqual(desk.say("row save save"), "-")

    def test_strays(self):
        lines = ("part - a 0 0 10 2", "part - b 5 0 6 4", "part - c 20 0 1 1")
        self.says(self.desk(*lines), strays="a right c b")
        inner = ("part - p 90 90 1 1", "part p d 0 0 1 1", "part p e 0 1 1 1", "part p f 5 0 1 2")
        told = strays(read(self.desk(*lines, *inner).say("show").replace("; ", "\n")))
        self.assertGreater(len(told), 1)
        self.says(self.desk(*lines, *inner), strays=", ".join(" ".join(row) for row in told))
        self.says(self.desk(*inner), strays="e right f d")
        self.says(self.form(), strays="-")

    def test_read(self):
        self.says(self.form(), read="form free 1 1 2, save free 2 1 2, quit free 2 2 2, title free 1 2 2")
        self.says(self.form("head form title", "word save hidden", "word quit shut"),
                  read="title free 1 2 2, form free 1 1 2, quit shut 2 1 1")
        self.says(self.desk("part - a 0 0 1 1"), read="a free 1 1 1")
        self.says(self.form("word form hidden", "word title hidden"), read="-")

    def test_parted(self):
        self.says(self.form(), parted="-")
        self.assertIn(self.desk("part - a 0 0 1 1", "part - b 0 0 1 1").say("parted"), ("a b", "b a"))
        self.says(self.desk("part - p 0 0 1 1", "part p a 0 0 1 1", "part p b 0 0 1 1"), parted="p b")

    def test_hear(self):
        desk = self.form("head quit title")
        self.assertEqual(desk.say("hear form"), "form here")
        self.assertEqual(desk.say("hear quit"), "title head, quit here")
        self.assertEqual(desk.say("press up"), "title")
        self.assertEqual(desk.say("hear quit"), "form within, title head, quit here")
        self.says(desk, stand="title")

    def test_hear_a_part_of_which_the_head_is_hidden(self):
        desk = self.form("head quit title", "word title hidden")
        self.assertEqual(desk.say("hear quit"), "quit here")

    def test_show(self):
        self.says(self.desk("part - a 0 0 1 1"), show="0 a 0 0 1 1 free 0 -")
        self.assertEqual(self.form().say("show"), shown(FORM_SHEET).replace("\n", "; "))


class NoLines(Saying):
    def test_the_lines_are_good_as_they_are(self):
        for line in LINES:
            self.form().say(line)

    def test_a_word_too_few_and_too_many(self):
        desk = self.form()
        for line in LINES:
            words = line.split(" ")
            for at in range(len(words)):
                shorter = " ".join(words[:at] + words[at + 1:])
                self.no(desk, NoLine, shorter)
            for more in ("save", "-", "0", "x"):
                self.no(desk, NoLine, f"{line} {more}")

    def test_blanks(self):
        desk = self.form()
        for line in LINES:
            words = line.split(" ")
            for at in range(len(words) + 1):
                self.no(desk, NoLine, " ".join(words[:at] + [""] + words[at:]))
            for at in range(len(words)):
                self.no(desk, NoLine, " ".join(words[:at] + [""] + words[at + 1:]))
            for broken in (f" {line}", f"{line} ", f" {line} ", f"{line}  "):
                self.no(desk, NoLine, broken)
        for line in ("", " ", "  ", "\n"):
            self.no(desk, NoLine, line)

    def test_another_first_word(self):
        desk = self.form()
        for line in LINES:
            first, *rest = line.split(" ")
            for other in (first.upper(), first.title(), first + "s", first[:-1], "put", "do", "into", "-", "save",
                          "\n" + first, "is" + first, "x" * 3000):
                if other not in {known.split(" ")[0] for known in LINES}:
                    self.no(desk, NoLine, " ".join([other, *rest]))

    def test_line_ends(self):
        desk = self.form()
        for line in ("stand", "walk", "unled", "strays", "read", "parted", "show", "rank save 1", "box save 1 2 3 4"):
            self.no(desk, NoLine, line + "\n")
            self.no(desk, NoLine, "\n" + line)
        self.no(desk, NoLine, "stand\nwalk")

    def test_each_number(self):
        desk = self.form()
        for line, places in (("part - zz 1 1 1 1", (3, 4, 5, 6)), ("box save 1 1 1 1", (2, 3, 4, 5)),
                             ("rank save 1", (2,))):
            for at in places:
                for word in NO_NUMBERS:
                    words = line.split(" ")
                    words[at] = word
                    self.no(desk, NoLine, " ".join(words))

    def test_ahead_of_all_else(self):
        desk = self.form()
        for line in ("part nobody zz 0 0 1 01", "part nobody ZZ +1 0 1 1", "part - save 0 0 -0 1", "box nobody 0 0 0 00",
                     "rank nobody -01", "part - ZZ 0 0 0 " + "9" * 61, "word nobody open shut", "take nobody -",
                     "press nothing on", "keys nobody nobody", "row nobody", "hear", "head nobody NOBODY -"):
            self.no(desk, NoLine, line)


class Refusals(Saying):
    NOBODY = ("nobody", "SAVE", "sav", "-", "save\n", "0", "x" * 3000)

    def test_no_part(self):
        desk = self.form()
        for name in self.NOBODY:
            for line in (f"word {name} shut", f"box {name} 0 0 1 1", f"rank {name} 1", f"head {name} title",
                         f"head {name} -", f"take {name}", f"keys {name}", f"row {name} save", f"row save {name}",
                         f"row {name} {name}", f"hear {name}"):
                self.assertEqual(self.no(desk, NoPart, line).name, name)
            if name != "-":
                self.assertEqual(self.no(desk, NoPart, f"part {name} zz 0 0 1 1").name, name)
        self.assertEqual(self.no(desk, NoPart, "row nobody none").name, "nobody")

    def test_no_part_of_where_goes_first(self):
        desk = self.form()
        for rest in ("ZZ 0 0 1 1", "zz 0 0 0 1", "save 0 0 1 1", "- 0 0 -1 -1"):
            self.assertEqual(self.no(desk, NoPart, f"part nobody {rest}").name, "nobody")

    def test_what_is_no_name_or_no_box_comes_to_no_sheet(self):
        desk = self.form()
        for where in ("-", "form", "save"):
            for rest in ("ZZ 0 0 1 1", "- 0 0 1 1", "z1 0 0 1 1", "zzzzzzzzz 0 0 1 1", "zz 0 0 0 1", "zz 0 0 1 0",
                         "zz 0 0 -1 1", "zz 0 0 1 -" + "9" * 60, "zz\n 0 0 1 1", "SAVE 0 0 0 0"):
                self.no(desk, NoSheet, f"part {where} {rest}")

    def test_deeper_than_five(self):
        desk = self.desk("part - a 0 0 1 1", "part a b 0 0 1 1", "part b c 0 0 1 1", "part c d 0 0 1 1",
                         "part d e 0 0 1 1")
        self.no(desk, NoSheet, "part e f 0 0 1 1")
        self.no(desk, NoSheet, "part e a 0 0 1 1")

    def test_too_many_and_twice(self):
        desk = self.desk(*[f"part - {name} 0 0 1 1" for name in many_names(40)])
        self.assertEqual(self.no(desk, TooMany, "part - x 0 0 1 1").many, 41)
        self.assertEqual(self.no(desk, TooMany, "part aa ab 0 0 1 1").many, 41)
        desk = self.form()
        self.assertEqual(self.no(desk, Twice, "part - save 0 0 1 1").name, "save")
        self.assertEqual(self.no(desk, Twice, "part save save 0 0 1 1").name, "save")

    def test_no_deed_ahead_of_no_part(self):
        desk = self.form()
        for name in ("save", "nobody", "-"):
            for line in (f"word {name} open", f"word {name} Free", f"word {name} -", f"word {name} 0",
                         f"box {name} 0 0 0 1", f"box {name} 0 0 1 -1", f"rank {name} -1", f"head {name} TITLE",
                         f"head {name} --", f"head {name} zzzzzzzzz", f"head {name} 0"):
                self.no(desk, NoDeed, line)

    def test_no_head_and_must_ring(self):
        desk = self.form("head title save")
        for line in ("head save nobody", "head save save", "head save form"):
            self.assertEqual(self.no(desk, NoHead, line).name, "save")
        self.assertEqual(self.no(desk, NoHead, "head form quit").name, "form")
        self.assertEqual(sorted(self.no(desk, MustRing, "head save title").names), ["save", "title"])
        self.assertEqual(sorted(self.no(desk, MustRing, "head form title").names), ["form", "save", "title"])

    def test_no_key(self):
        for desk in (Desk(), self.form()):
            for key in ("On", "ON", "nobody", "-", "0", "on,", "up\n", "stand"):
                self.no(desk, NoKey, f"press {key}")

    def test_not_open(self):
        desk = self.form("word form shut", "part - a 0 20 1 1", "word quit hidden", "part - b 0 0 1 1")
        for name, why in (("form", ("shut", "form")), ("save", ("shut", "form")), ("quit", ("hidden", "quit"))):
            for line in (f"keys {name}", f"row {name} a", f"row a {name}", f"hear {name}"):
                self.assertEqual(self.no(desk, NotOpen, line).why, why)
        self.assertEqual(self.no(desk, NotOpen, "row save quit").why, ("shut", "form"))
        self.assertEqual(self.no(desk, NoPart, "row save nobody").name, "nobody")

    def test_no_way(self):
        desk = self.desk("part - a 0 0 1 1", "part - b 0 0 1 1")
        self.assertEqual(self.no(desk, NoWay, "row a b").names, ["a"])

    def test_done_once_what_stood_in_its_way_is_gone(self):
        desk = self.form("head title save")
        self.no(desk, MustRing, "head save title")
        desk.say("head title -")
        self.assertEqual(desk.say("head save title"), "ok")

    def test_what_the_walker_keeps_stays_behind_a_refusal(self):
        desk = self.form("press into", "press right", "press out")
        for kind, line in ((NoKey, "press in"), (NoPart, "take nobody"), (NoDeed, "word quit open"), (NoLine, "into"),
                           (Twice, "part - quit 0 0 1 1")):
            self.refused(kind, desk.say, line)
        self.assertEqual(desk.say("press into"), "quit")


def told_rows(rows):
    return ", ".join(" ".join(str(thing) for thing in row) for row in rows) or "-"


class BesideAWalker(Saying):
    """A desk and a walker that are told the same go the same way."""

    def chance_line(self, chance, sheet):
        """A line, and the deed or the key that is the same to a walker; some are refused."""
        names = [*walk(sheet), *[one[0] for one in sheet], *many_names(12), "form", "Form"]
        name, other = chance.choice(names), chance.choice(names)
        box = chance_box(chance, 6)
        numbers = " ".join(str(number) for number in box)
        word, rank = chance.choice(["free", "free", "shut", "hidden", "open"]), chance.choice([0, 0, 1, -1, GREATEST])
        where = chance.choice([None, other])
        there = sheet if where is None else [one for one in self.parts(sheet) if one[0] == where]
        many = len(sheet) if where is None else len(there[0][5]) if there else 0
        return chance.choice([
            (f"part {where or '-'} {name} {numbers}", ("put", where, many, part(name, box=box))),
            (f"part {where or '-'} {name} {numbers}", ("put", where, many, part(name, box=box))),
            (f"word {name} {word}", ("word", name, word)), (f"word {name} {word}", ("word", name, word)),
            (f"box {name} {numbers}", ("box", name, box)), (f"rank {name} {rank}", ("rank", name, rank)),
            (f"head {name} {where or '-'}", ("head", name, where)),
            *[(f"press {key}", key) for key in KEYS], (f"take {name}", ("take", name))])

    def parts(self, sheet):
        return [one for outer in sheet for one in [outer, *self.parts(outer[5])]]

    def told(self, ask, given):
        try:
            return ask(given)
        except FocusError as refusal:
            return type(refusal), vars(refusal)

    def compare(self, desk, walker):
        sheet, stand = walker.sheet(), walker.stand()
        names = [one[0] for one in self.parts(sheet) if is_open(sheet, one[0])]
        self.says(desk, show=shown(sheet).replace("\n", "; "), stand=stand or "-", walk=" ".join(walk(sheet)) or "-",
                  unled=" ".join(unled(sheet)) or "-", strays=told_rows(strays(sheet)),
                  read=told_rows(reading(sheet)), parted=" ".join((parted(sheet) or ["-"])[:2]))
        for name in names[:4]:
            self.assertEqual(desk.say(f"keys {name}"),
                             ", ".join(f"{key} {goes(sheet, name, key) or '-'}" for key in KEYS))
            self.assertEqual(desk.say(f"hear {name}"), told_rows(heard(sheet, stand, name)))
            row = self.told(lambda other: row_to(sheet, name, other), names[-1])
            told = self.told(desk.say, f"row {name} {names[-1]}")
            self.assertEqual(told, row if isinstance(row, tuple) else " ".join(row) or "-")

    def test_by_chance(self):
        chance = random.Random(60)
        counts = {}
        for turn in range(25):
            desk, walker = Desk(), Walker(())
            for step in range(80):
                line, same = self.chance_line(chance, walker.sheet())
                press = isinstance(same, str)
                due = self.told(walker.press if press else walker.do, same)
                told = self.told(desk.say, line)
                if press:
                    due = due or "-"
                elif not isinstance(due, tuple):
                    due = "ok"
                self.assertEqual(told, due, line)
                kind = told[0].__name__ if isinstance(told, tuple) else line.split(" ")[0]
                counts[kind] = counts.get(kind, 0) + 1
                if step % 8 == 0:
                    self.compare(desk, walker)
            self.compare(desk, walker)
        for kind in ("part", "word", "box", "rank", "head", "take", "press", "NoPart", "NoDeed", "NoSheet", "Twice",
                     "NoHead"):
            self.assertGreater(counts.get(kind, 0), 4, counts)


if __name__ == "__main__":
    unittest.main()
