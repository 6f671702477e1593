"""hopline.desk: points 31 and 32, and 2 as far as it speaks of the desk."""

import random
import unittest
from itertools import product

from hopline.chances import bead_chance
from hopline.courses import heap_at, heaps_many
from hopline.desk import Desk
from hopline.errors import (BadRow, HopError, NoName, NoNumber, NoPace, NoPlace, NoRing, NoRow, NoStep, NoWall,
                            TooMany)
from hopline.lines import ring_weight
from hopline.parts import Part, read_part
from hopline.totals import row_chance, through, total
from hopline.walks import Walk
from hopline.weights import weight

from tests.ring_models import LONG_RINGS, no_rings
from tests.things import no_rows, no_texts

NAMES = ["a", "b", "z", "ab", "ba", "abcdefgh", "zzzzzzzz", "row", "names", "drop", "ok"]
NO_NAMES = ["abcdefghi", "A", "Ab", "aB", "a1", "1", "0", "a-b", "-", "a.b", ".", "a_b", "_", "a\t", "\ta", "a\n", "\n", "\t",
            "a,", "abcdefgh\n", "a" * 9, "a" * 100, "a\tb", "o.", "1/2", "a\x00", "a\r", "a\x0b", "a;"]
NO_FIGURES = ["-1", "+1", "-0", "+0", "01", "00", "007", "1234567890", "0000000000", "1000000000", "a", "x1", "1x", "1.0",
              ".", "1/2", "1_0", "1,0", "0x1", "1\n", "\n1", "1\t", "\t", "\n", "--1", "1e1", "1 ", "one", "-", "o"]
NO_PARTS = ["2/4", "01", "1/0", "+1", "-0", "1/1", "3/1", "0/1", "0/2", "/", "1/", "/2", "1/-2", "1//2", "1/2/3", "x", "1.5",
            "00", "1/02", "01/2", "-", "--1", "1\n", "1\t", "o.", "1e3", "1_0", "-2/4", "6/4"]
NO_PACES = ["0", "-1", "-1/2", "-7"]
PARTS = ["1", "2", "1/2", "7/3", "100000000000000000000000000000/7"]

# Each row of the desk with a walk of the name `ab`, of which it can be told, in words.
GOOD_ROWS = ["row ab o. 1 1", "drop ab", "names", "step ab 1", "back ab", "shown ab", "open ab", "done ab", "beads ab",
             "chance ab 1", "weight ab", "often ab", "heaps ab", "heap ab 0", "total 2 1 1", "through 2 1 1",
             "bead 2 1 1 1", "ring ab."]
NAMED_ROWS = [row for row in GOOD_ROWS if " ab" in row and not row.startswith("ring")]


def told(desk):
    """All that a desk tells of what it keeps."""
    names = desk.say("names")
    found = [names]
    for name in ([] if names == "-" else names.split(" ")):
        for word in ["shown", "open", "done", "beads", "weight", "often", "heaps"]:
            found.append(desk.say(f"{word} {name}"))
    return found


def made():
    """A desk that keeps two Walks, one of them with steps."""
    desk = Desk()
    for row in ["row ab .o.o 1/2 3", "step ab 2", "step ab 0", "row z .. 1 1"]:
        desk.say(row)
    return desk


class TestAnswers(unittest.TestCase):

    def check(self, desk, rows):
        for row, wanted in rows:
            found = desk.say(row)
            self.assertIs(type(found), str)
            self.assertEqual(found, wanted, row)

    def test_word_for_word(self):
        self.check(Desk(), [
            ("names", "-"), ("row ab o.o. 1/2 3", "ok"), ("names", "ab"), ("shown ab", "o.o. 1/2 3"), ("open ab", "1 3"),
            ("done ab", "-"), ("beads ab", "0 0 0"), ("chance ab 1", "1/2"), ("chance ab 0", "0"), ("chance ab 3", "1/2"),
            ("step ab 1", ".oo."), ("open ab", "0 3"), ("chance ab 0", "1/3"), ("chance ab 3", "2/3"),
            ("chance ab 4", "0"), ("step ab 3", ".o.o"), ("step ab 4", ".o.."), ("step ab 0", "oo.."),
            ("done ab", "1 3 4 0"), ("beads ab", "1 2 1"), ("shown ab", "oo.. 1/2 3"), ("back ab", ".o.."),
            ("done ab", "1 3 4"), ("beads ab", "0 2 1"), ("open ab", "0 2"), ("row a . 1 1", "ok"), ("names", "a ab"),
            ("weight a", "1"), ("often a", "1/2"), ("heaps a", "1"), ("heap a 0", "-"), ("open a", "0"),
            ("drop a", "ok"), ("names", "ab"), ("drop ab", "ok"), ("names", "-")])

    def test_weights_and_heaps_by_hand(self):
        self.check(Desk(), [
            ("row x o. 1/2 3", "ok"), ("weight x", "7/3"), ("often x", "21/64"), ("heaps x", "2"), ("heap x 0", "0 1 o"),
            ("heap x 1", "0 1 ."), ("row x oo. 1 1", "ok"), ("heaps x", "3"), ("heap x 0", "1 2 o"),
            ("heap x 1", "0 2 o; 1 2 ."), ("heap x 2", "0 2 .; 1 2 ."), ("weight x", "3"), ("often x", "3/14"),
            ("row x oooooooooooooooooooooooooooooo 1 1", "ok"), ("heap x 0", "-"), ("weight x", "1"), ("open x", "30"),
            ("row x ooooooooooooooo............... 1 1", "ok"), ("heaps x", "155117520"), ("weight x", "155117520")])

    def test_what_needs_no_name(self):
        self.check(Desk(), [
            ("total 0 5 7", "1"), ("total 3 1 1", "14"), ("total 2 1/2 3", "64/9"), ("through 2 1/2 3", "21/64"),
            ("through 1 1 1", "1/2"), ("bead 2 0 1 1", "3/5"), ("bead 2 1 1 1", "2/5"), ("bead 1 0 1/2 3", "1/7"),
            ("ring ab.", "1"), ("ring a.b", "2"), ("ring aaaaaa......", "924"), ("names", "-")])

    def test_answers_are_what_the_points_tell(self):
        for many, inn, out in product([1, 2, 5, 17, 30], PARTS, PARTS):
            paces = read_part(inn), read_part(out)
            self.check(Desk(), [
                (f"total {many} {inn} {out}", str(total(many, *paces))),
                (f"through {many} {inn} {out}", str(through(many, *paces))),
                (f"bead {many} {many // 2} {inn} {out}", str(bead_chance(many, many // 2, *paces)))])
        for ring in LONG_RINGS + ["ab", "..", "a.b"]:
            self.check(Desk(), [(f"ring {ring}", str(ring_weight(ring)))])
        self.check(Desk(), [("total 40 1 1", str(total(40))), ("through 40 1 1", str(through(40)))])

    def test_long_parts(self):
        inn = Part(10 ** 59 + 7, 10 ** 59 + 9)
        self.check(Desk(), [("row x " + "." * 30 + f" {inn} 1", "ok"),
                            ("weight x", str(Part(1).over(inn.raised(30)))),
                            ("often x", str(row_chance("." * 30, inn))),
                            (f"total 40 {inn} {inn}", str(total(40, inn, inn)))])
        # More figures than Python itself writes at one go.
        self.assertGreater(len(Desk().say(f"total 40 {inn} {inn}")), 4400)

    def test_walks_by_many_steps(self):
        for row, inn, out in [("." * 30, "1", "1"), ("o.o.oo..", "2/3", "7"), ("o", "1/2", "9"), ("..", "5", "1/5")]:
            self.check_walk(row, inn, out, random.Random(len(row)))

    def check_walk(self, row, inn, out, chooser):
        """Check that a desk tells at each step all that a Walk does."""
        desk, walk = Desk(), Walk(row, read_part(inn), read_part(out))
        self.check(desk, [(f"row ab {row} {inn} {out}", "ok")])
        for turn in range(60):
            if len(walk) and chooser.random() < 0.2:
                self.check(desk, [("back ab", walk.undo())])
            else:
                wall = chooser.choice(walk.walls())
                self.check(desk, [(f"step ab {wall}", walk.step(wall))])
            now = walk.row()
            paces = read_part(inn), read_part(out)
            number = chooser.randrange(heaps_many(now))
            heap = "; ".join(f"{bead} {free} {sign}" for bead, free, sign in heap_at(now, number)) or "-"
            self.check(desk, [
                ("shown ab", f"{now} {inn} {out}"), ("open ab", " ".join(map(str, walk.walls()))),
                ("done ab", " ".join(map(str, walk.done())) or "-"), ("beads ab", " ".join(map(str, walk.counts()))),
                ("weight ab", str(weight(now, *paces))), ("often ab", str(row_chance(now, *paces))),
                ("heaps ab", str(heaps_many(now))), (f"heap ab {number}", heap)])
            self.check(desk, [(f"chance ab {wall}", str(walk.chance(wall))) for wall in range(len(now) + 1)])

    def test_names(self):
        desk = Desk()
        kept = []
        for name in NAMES:
            self.check(desk, [(f"row {name} o. 1 1", "ok")])
            kept.append(name)
            self.check(desk, [("names", " ".join(sorted(kept)))])
        for name in NAMES[::2]:
            self.check(desk, [(f"drop {name}", "ok")])
            kept.remove(name)
            self.check(desk, [("names", " ".join(sorted(kept)))])

    def test_a_name_told_anew_takes_the_new_walk(self):
        self.check(Desk(), [
            ("row ab .. 1 1", "ok"), ("step ab 0", "o."), ("done ab", "0"), ("row ab oo 2 1/3", "ok"), ("names", "ab"),
            ("shown ab", "oo 2 1/3"), ("done ab", "-"), ("beads ab", "0 0 0"), ("step ab 2", "o."), ("done ab", "2"),
            ("row ab oo 2 1/3", "ok"), ("done ab", "-"), ("shown ab", "oo 2 1/3")])

    def test_a_dropped_name_may_be_told_again(self):
        self.check(Desk(), [("row ab .. 1 1", "ok"), ("step ab 0", "o."), ("drop ab", "ok"), ("row ab .. 3 1", "ok"),
                            ("shown ab", ".. 3 1"), ("done ab", "-")])

    def test_walks_of_one_desk_go_on_each_by_itself(self):
        self.check(Desk(), [("row a .. 1 1", "ok"), ("row b .. 1 1", "ok"), ("step a 0", "o."), ("shown b", ".. 1 1"),
                            ("done b", "-"), ("step b 0", "o."), ("step b 1", ".o"), ("done a", "0"), ("back a", ".."),
                            ("done b", "0 1"), ("drop a", "ok"), ("shown b", ".o 1 1")])

    def test_two_desks_go_on_each_by_itself(self):
        one, other = Desk(), Desk()
        self.check(one, [("row a .. 1 1", "ok"), ("step a 0", "o.")])
        self.check(other, [("names", "-"), ("row a oo 2 3", "ok")])
        self.check(one, [("shown a", "o. 1 1"), ("done a", "0"), ("drop a", "ok"), ("names", "-")])
        self.check(other, [("names", "a"), ("shown a", "oo 2 3"), ("done a", "-")])

    def test_say_by_name(self):
        self.assertEqual(Desk().say(row="names"), "-")

    def test_asked_twice_alike(self):
        desk = made()
        for row in ["names", "shown ab", "open ab", "done ab", "beads ab", "chance ab 1", "weight ab", "often ab",
                    "heaps ab", "heap ab 0", "total 3 1/2 3", "through 3 1 1", "bead 3 1 1 1", "ring a.b"]:
            before = told(desk)
            self.assertEqual(desk.say(row), desk.say(row))
            self.assertEqual(told(desk), before)


def twenty_names():
    return [first + second for first in "abcd" for second in "vwxyz"]


class TestRefusals(unittest.TestCase):

    def refused(self, desk, row, error):
        """Check that a row is refused with just this error and changes nothing; tell what was raised."""
        before = told(desk)
        with self.subTest(row=repr(row)):
            with self.assertRaises(error) as caught:
                desk.say(row)
            self.assertIs(type(caught.exception), error)
            self.assertEqual(told(desk), before)
            return caught.exception

    def test_what_is_no_text(self):
        for thing in no_texts() + [b"names", ["names"], ("names",)]:
            for desk in [Desk(), made()]:
                self.refused(desk, thing, BadRow)

    def test_no_row_of_words(self):
        desk = made()
        for row in ["", " ", "  ", "x", "name", "namess", "Names", "NAMES", "ok", "-", "undo ab", "walls ab", "ab", "open",
                    "names\n", "\nnames", "names\t", "\tnames", "Row ab o. 1 1", "say names", "twin ab", "help", "0", "1 2"]:
            self.refused(desk, row, BadRow)

    def test_too_few_words_and_too_many(self):
        desk = made()
        for row in GOOD_ROWS:
            words = row.split(" ")
            for fewer in range(1, len(words)):
                self.refused(desk, " ".join(words[:fewer]), BadRow)
            for more in ["ab", "1", "o.", "-", "1/2", "\n", "\t"]:
                self.refused(desk, f"{row} {more}", BadRow)
                self.refused(desk, f"{more} {row}", BadRow)
                self.refused(desk, f"{row} {more} {more}", BadRow)

    def test_words_without_signs(self):
        desk = made()
        for row in GOOD_ROWS:
            self.refused(desk, f" {row}", BadRow)
            self.refused(desk, f"{row} ", BadRow)
            words = row.split(" ")
            for at in range(len(words)):
                self.refused(desk, " ".join(words[:at] + [""] + words[at:]), BadRow)
                self.refused(desk, " ".join(words[:at] + [""] + words[at + 1:]), BadRow)

    def test_only_blanks_part_words(self):
        desk = made()
        for row in GOOD_ROWS:
            for sign in ["\t", "\n", "\r", "\x0b", "  ", ",", "; "]:
                if " " in row:
                    self.refused(desk, row.replace(" ", sign, 1), BadRow)
                    self.refused(desk, row.replace(" ", sign), BadRow)

    def test_no_names(self):
        desk = made()
        for name in NO_NAMES:
            for row in NAMED_ROWS:
                self.refused(desk, row.replace(" ab", f" {name}", 1), BadRow)
            for rest in ["x 1/0 y", "o. 2/4 1", "o. 0 0"]:
                self.refused(desk, f"row {name} {rest}", BadRow)

    def test_no_figures(self):
        desk = made()
        for word in NO_FIGURES:
            for row in [f"step ab {word}", f"chance ab {word}", f"heap ab {word}", f"total {word} 1 1",
                        f"through {word} 1 1", f"bead {word} 0 1 1", f"bead 2 {word} 1 1", f"step none {word}",
                        f"heap none {word}", f"total {word} x y", f"bead {word} {word} 2/4 0"]:
                self.refused(desk, row, BadRow)

    def test_names_by_which_nothing_is_kept(self):
        for desk in [Desk(), made()]:
            for name in ["b", "abc", "names", "zz", "none"]:
                for row in NAMED_ROWS[1:]:
                    found = self.refused(desk, row.replace(" ab", f" {name}", 1), NoName)
                    self.assertEqual(found.name, name)
                for row in [f"step {name} 999999999", f"heap {name} 999999999", f"chance {name} 99"]:
                    self.assertEqual(self.refused(desk, row, NoName).name, name)
        desk = made()
        desk.say("drop ab")
        self.assertEqual(self.refused(desk, "shown ab", NoName).name, "ab")
        self.assertEqual(self.refused(desk, "drop ab", NoName).name, "ab")

    def test_no_rows(self):
        desk = made()
        words = [thing for thing in no_rows() if isinstance(thing, str) and thing and " " not in thing]
        for word in words + ["a", "-", "o.\t", "1"]:
            for rest in ["1 1", "x y", "0 0", "2/4 1"]:
                for name in ["ab", "new"]:
                    self.refused(desk, f"row {name} {word} {rest}", NoRow)

    def test_no_parts(self):
        desk = made()
        for word in NO_PARTS:
            for inn, out in [(word, "1"), ("1", word), (word, "0"), ("0", word), (word, word), ("-1", word)]:
                for row in [f"row ab o. {inn} {out}", f"row new o. {inn} {out}", f"total 3 {inn} {out}",
                            f"total 99 {inn} {out}", f"through 3 {inn} {out}", f"bead 3 1 {inn} {out}",
                            f"bead 3 99 {inn} {out}", f"bead 99 0 {inn} {out}"]:
                    self.refused(desk, row, NoNumber)

    def test_no_paces(self):
        desk = made()
        for word in NO_PACES:
            for inn, out in [(word, "1"), ("1", word), (word, word)]:
                for row in [f"row ab o. {inn} {out}", f"row new o. {inn} {out}", f"total 3 {inn} {out}",
                            f"through 3 {inn} {out}", f"bead 3 1 {inn} {out}"]:
                    self.refused(desk, row, NoPace)

    def test_no_walls(self):
        desk = made()
        self.assertEqual(desk.say("shown ab"), "o.oo 1/2 3")
        for wall in [0, 2, 3, 5, 6, 30, 999999999]:
            found = self.refused(desk, f"step ab {wall}", NoWall)
            self.assertEqual(found.wall, wall)
            self.assertIs(type(found.wall), int)
        for wall in [5, 6, 31, 999999999]:
            found = self.refused(desk, f"chance ab {wall}", NoWall)
            self.assertEqual(found.wall, wall)
            self.assertIs(type(found.wall), int)
        self.assertEqual(desk.say("step ab 4"), "o.o.")

    def test_no_steps(self):
        desk = made()
        self.refused(desk, "back z", NoStep)
        for turn in range(2):
            desk.say("back ab")
        self.refused(desk, "back ab", NoStep)
        desk.say("step z 0")
        desk.say("row z .. 1 1")
        self.refused(desk, "back z", NoStep)

    def test_no_numbers(self):
        desk = made()
        self.assertEqual(desk.say("heaps ab"), "2")
        for number in [2, 3, 999999999]:
            self.refused(desk, f"heap ab {number}", NoNumber)
        self.refused(desk, "heap z 1", NoNumber)
        for row in ["total 41 1 1", "total 999999999 1 1", "total 41 0 0", "through 0 1 1", "through 41 1 1",
                    "through 0 0 0", "bead 0 0 1 1", "bead 31 0 1 1", "bead 31 99 0 0", "bead 0 0 0 0"]:
            self.refused(desk, row, NoNumber)

    def test_no_places(self):
        desk = made()
        for row in ["bead 1 1 1 1", "bead 3 3 1 1", "bead 30 30 1 1", "bead 3 999999999 1 1", "bead 3 3 0 -1"]:
            self.refused(desk, row, NoPlace)

    def test_no_rings(self):
        desk = made()
        for thing in no_rings():
            if isinstance(thing, str) and thing and " " not in thing:
                self.refused(desk, f"ring {thing}", NoRing)

    def test_a_twenty_first_name(self):
        desk = Desk()
        names = twenty_names()
        self.assertEqual(len(set(names)), 20)
        for name in names:
            self.assertEqual(desk.say(f"row {name} .o 1 1"), "ok")
        self.assertEqual(desk.say("names"), " ".join(sorted(names)))
        self.refused(desk, "row new o. 1 1", TooMany)
        self.refused(desk, "row new x 1 1", NoRow)
        self.refused(desk, "row new o. 2/4 1", NoNumber)
        self.refused(desk, "row new o. 0 1", NoPace)
        self.refused(desk, "row new o. 1 -1", NoPace)
        self.refused(desk, "row NEW o. 1 1", BadRow)
        self.assertEqual(self.refused(desk, "shown new", NoName).name, "new")
        self.assertEqual(desk.say(f"row {names[7]} oo 2 3"), "ok")
        self.assertEqual(desk.say(f"shown {names[7]}"), "oo 2 3")
        self.assertEqual(desk.say(f"drop {names[3]}"), "ok")
        self.assertEqual(desk.say("row new o. 1 1"), "ok")
        self.refused(desk, f"row {names[3]} o. 1 1", TooMany)

    def test_a_refused_row_keeps_the_elder_walk(self):
        desk = made()
        for row, error in [("row ab x 1 1", NoRow), ("row ab o. 1/0 1", NoNumber), ("row ab o. 1 0", NoPace),
                           ("row ab o. 1", BadRow)]:
            self.refused(desk, row, error)
            self.assertEqual(desk.say("done ab"), "2 0")

    def test_refusals_are_of_their_kinds(self):
        for error in [BadRow, NoRow, NoNumber, NoPace, NoStep, NoPlace, NoRing, TooMany]:
            self.assertTrue(issubclass(error, HopError))
        self.assertTrue(issubclass(NoName, KeyError))
        self.assertTrue(issubclass(NoWall, IndexError))


if __name__ == "__main__":
    unittest.main()
