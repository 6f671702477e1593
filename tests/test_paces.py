"""hopline.paces: point 8, and 2 as far as it speaks of paces."""

import unittest

from hopline.errors import NoPace, NoRow
from hopline.paces import changes, pace_of
from hopline.parts import Part
from hopline.rows import changed, walls_of

from tests.test_rows import rows_to_try
from tests.things import looked_at, no_paces, no_rows

INN = Part(2, 3)
OUT = Part(5, 7)
ONE = Part(1)


class TestPaceOf(unittest.TestCase):

    def test_each_wall(self):
        for row in rows_to_try():
            for wall in range(len(row) + 1):
                wanted = INN if wall == 0 else OUT if wall == len(row) else ONE
                self.assertEqual(pace_of(row, wall, INN, OUT), wanted)
                self.assertEqual(pace_of(row, wall, INN, OUT), wanted)

    def test_row_of_one_place(self):
        for row in [".", "o"]:
            self.assertEqual(pace_of(row, 0, INN, OUT), INN)
            self.assertEqual(pace_of(row, 1, INN, OUT), OUT)

    def test_by_names_none_and_left_out(self):
        for wall, both, inn_only, out_only in [(0, INN, INN, ONE), (1, ONE, ONE, ONE), (2, OUT, ONE, OUT)]:
            self.assertEqual(pace_of(row="o.", wall=wall, inn=INN, out=OUT), both)
            self.assertEqual(pace_of(out=OUT, inn=INN, wall=wall, row="o."), both)
            self.assertEqual(pace_of("o.", wall, INN), inn_only)
            self.assertEqual(pace_of("o.", wall, inn=INN), inn_only)
            self.assertEqual(pace_of("o.", wall, INN, None), inn_only)
            self.assertEqual(pace_of("o.", wall, None, OUT), out_only)
            self.assertEqual(pace_of("o.", wall, out=OUT), out_only)
            self.assertEqual(pace_of("o.", wall, inn=None, out=OUT), out_only)
            self.assertEqual(pace_of("o.", wall), ONE)
            self.assertEqual(pace_of("o.", wall, None, None), ONE)
            self.assertEqual(pace_of("o.", wall, inn=None), ONE)

    def test_shut_walls_have_paces_too(self):
        self.assertEqual(pace_of("o.", 0, INN, OUT), INN)
        self.assertEqual(pace_of("o.", 2, INN, OUT), OUT)

    def test_whole_numbers_that_are_no_walls(self):
        for row in rows_to_try():
            for wall in [-1, -2, -len(row), -len(row) - 1, len(row) + 1, len(row) + 2, 1000, 10 ** 50, -(10 ** 50)]:
                self.assertEqual(pace_of(row, wall, INN, OUT), ONE)

    def test_small_and_great_paces(self):
        for pace in [Part(1, 10 ** 59), Part(10 ** 59), Part(1), Part(10 ** 59 + 1, 10 ** 59), Part(-1, -2)]:
            self.assertEqual(pace_of("o.", 0, pace), pace)
            self.assertEqual(pace_of("o.", 2, None, pace), pace)

    def test_no_paces(self):
        for thing in no_paces():
            for wall in [0, 1, 2, -1, 9]:
                with self.subTest(thing=repr(thing), wall=wall):
                    with self.assertRaises(NoPace):
                        pace_of("o.", wall, thing)
                    with self.assertRaises(NoPace):
                        pace_of("o.", wall, inn=thing, out=OUT)
                    with self.assertRaises(NoPace):
                        pace_of("o.", wall, INN, thing)
                    with self.assertRaises(NoPace):
                        pace_of("o.", wall, out=thing)
                    with self.assertRaises(NoPace):
                        pace_of("o.", wall, thing, thing)

    def test_no_row_ahead_of_no_pace(self):
        for thing in no_rows():
            with self.subTest(thing=repr(thing)):
                with self.assertRaises(NoRow):
                    pace_of(thing, 0)
                with self.assertRaises(NoRow):
                    pace_of(thing, 0, "x", Part(0))
                with self.assertRaises(NoRow):
                    pace_of(thing, 0, INN, OUT)

    def test_inn_is_looked_at_first(self):
        self.assertEqual(looked_at(lambda inn, out: pace_of("o.", 1, inn, out)), {"inn"})
        self.assertEqual(looked_at(lambda inn, out: changes("o.", inn, out)), {"inn"})


class TestChanges(unittest.TestCase):

    def test_named_examples(self):
        self.assertEqual(changes(".", INN, OUT), [(0, INN, "o")])
        self.assertEqual(changes("o", INN, OUT), [(1, OUT, ".")])
        self.assertEqual(changes("o.", INN, OUT), [(1, ONE, ".o")])
        self.assertEqual(changes(".o", INN, OUT), [(0, INN, "oo"), (2, OUT, "..")])
        self.assertEqual(changes(".o.o", INN, OUT), [(0, INN, "oo.o"), (2, ONE, "..oo"), (4, OUT, ".o..")])
        self.assertEqual(changes("." * 30, INN, OUT), [(0, INN, "o" + "." * 29)])
        self.assertEqual(changes("o" * 30, INN, OUT), [(30, OUT, "o" * 29 + ".")])

    def test_each_row(self):
        for row in rows_to_try():
            wanted = [(wall, INN if wall == 0 else OUT if wall == len(row) else ONE, changed(row, wall))
                      for wall in walls_of(row)]
            found = changes(row, INN, OUT)
            self.assertEqual(found, wanted)
            self.assertIs(type(found), list)
            for change in found:
                self.assertIs(type(change), tuple)
                self.assertEqual(len(change), 3)
                self.assertIsInstance(change[1], Part)
            self.assertEqual([wall for wall, pace, behind in found], sorted(wall for wall, pace, behind in found))

    def test_by_names_none_and_left_out(self):
        both = [(0, INN, "oo"), (2, OUT, "..")]
        inn_only = [(0, INN, "oo"), (2, ONE, "..")]
        out_only = [(0, ONE, "oo"), (2, OUT, "..")]
        neither = [(0, ONE, "oo"), (2, ONE, "..")]
        self.assertEqual(changes(row=".o", inn=INN, out=OUT), both)
        self.assertEqual(changes(".o", out=OUT, inn=INN), both)
        self.assertEqual(changes(".o", INN), inn_only)
        self.assertEqual(changes(".o", inn=INN), inn_only)
        self.assertEqual(changes(".o", INN, None), inn_only)
        self.assertEqual(changes(".o", None, OUT), out_only)
        self.assertEqual(changes(".o", out=OUT), out_only)
        self.assertEqual(changes(".o"), neither)
        self.assertEqual(changes(".o", None, None), neither)
        self.assertEqual(changes(".o", inn=None, out=None), neither)

    def test_no_paces_whatever_walls_are_open(self):
        for thing in no_paces():
            for row in [".", "o", "o.", ".o", "." * 30, "o" * 30]:
                with self.subTest(thing=repr(thing), row=row):
                    with self.assertRaises(NoPace):
                        changes(row, thing)
                    with self.assertRaises(NoPace):
                        changes(row, thing, OUT)
                    with self.assertRaises(NoPace):
                        changes(row, INN, thing)
                    with self.assertRaises(NoPace):
                        changes(row, out=thing)

    def test_no_row_ahead_of_no_pace(self):
        for thing in no_rows():
            with self.subTest(thing=repr(thing)):
                with self.assertRaises(NoRow):
                    changes(thing)
                with self.assertRaises(NoRow):
                    changes(thing, "x", Part(0))

    def test_told_lists_are_the_askers_own(self):
        for row in rows_to_try():
            first = changes(row, INN, OUT)
            kept = list(first)
            second = changes(row, INN, OUT)
            self.assertIsNot(first, second)
            first.append("x")
            first[0] = None
            self.assertEqual(second, kept)
            del second[:]
            self.assertEqual(changes(row, INN, OUT), kept)
            self.assertEqual([change[0] for change in kept], walls_of(row))

    def test_paces_are_not_changed(self):
        inn, out = Part(4, 6), Part(10, 14)
        for turn in range(2):
            changes(".o.o", inn, out)
            pace_of(".o", 0, inn, out)
            with self.assertRaises(NoPace):
                changes(".o", inn, "x")
            self.assertEqual((inn.top, inn.bottom, out.top, out.bottom), (2, 3, 5, 7))


if __name__ == "__main__":
    unittest.main()
