"""hopline.rows: points 6 and 7, and 2 as far as it speaks of rows."""

import unittest
from itertools import product

from hopline.errors import HopError, NoRow, NoWall
from hopline.rows import changed, is_row, mirrored, row_at, row_number, walls_of

from tests.things import no_rows, no_whole_numbers


def rows_of(many):
    """All rows of so many places, by their numbers."""
    return ["".join(signs) for signs in product(".o", repeat=many)]


LONG_ROWS = ["." * 30, "o" * 30, "o." * 15, ".o" * 15, "o" * 15 + "." * 15, "." * 15 + "o" * 15, "." * 29 + "o",
             "o" + "." * 29, "o" * 29 + ".", "." + "o" * 29, "oo.o...oo.ooo.....o.o.oo..oo.o"]


def rows_to_try():
    return [row for many in range(1, 8) for row in rows_of(many)] + LONG_ROWS


def open_by_words(row, wall):
    """Whether a wall is open, case by case as point 7 tells it."""
    if wall == 0:
        return row[0] == "."
    if wall == len(row):
        return row[-1] == "o"
    return row[wall - 1] == "o" and row[wall] == "."


def changed_by_words(row, wall):
    """The row behind a change, case by case as point 7 tells it."""
    places = list(row)
    if wall == 0:
        places[0] = "o"
    elif wall == len(row):
        places[-1] = "."
    else:
        places[wall - 1], places[wall] = ".", "o"
    return "".join(places)


class TestIsRow(unittest.TestCase):

    def test_rows(self):
        for row in rows_to_try():
            self.assertIs(is_row(row), True)
        for many in range(1, 31):
            self.assertIs(is_row("o" * many), True)
            self.assertIs(is_row("." * many), True)
        self.assertIs(is_row(thing="o."), True)

    def test_what_is_none(self):
        for thing in no_rows():
            with self.subTest(thing=repr(thing)):
                self.assertIs(is_row(thing), False)

    def test_another_sign_at_each_place(self):
        for place in range(30):
            for sign in ["x", "O", "0", "\n", " ", "a", "b", "/", "-", ","]:
                self.assertIs(is_row("o" * place + sign + "." * (29 - place)), False)


class TestNumbers(unittest.TestCase):

    def test_all_rows_of_few_places(self):
        for many in range(1, 11):
            for number, row in enumerate(rows_of(many)):
                self.assertEqual(row_number(row), number)
                self.assertEqual(row_at(many, number), row)

    def test_named_examples(self):
        self.assertEqual(row_number("."), 0)
        self.assertEqual(row_number("o"), 1)
        self.assertEqual(row_number("o.."), 4)
        self.assertEqual(row_number("..o"), 1)
        self.assertEqual(row_at(3, 6), "oo.")
        self.assertEqual(row_number(row="o.o"), 5)
        self.assertEqual(row_at(number=5, many=3), "o.o")

    def test_thirty_places(self):
        self.assertEqual(row_at(30, 0), "." * 30)
        self.assertEqual(row_at(30, 1), "." * 29 + "o")
        self.assertEqual(row_at(30, 2 ** 29), "o" + "." * 29)
        self.assertEqual(row_at(30, 2 ** 30 - 1), "o" * 30)
        self.assertEqual(row_number("." * 30), 0)
        self.assertEqual(row_number("o" * 30), 2 ** 30 - 1)
        for row in LONG_ROWS:
            self.assertEqual(row_at(30, row_number(row)), row)

    def test_first_and_last_of_each_many(self):
        for many in range(1, 31):
            self.assertEqual(row_at(many, 0), "." * many)
            self.assertEqual(row_at(many, 2 ** many - 1), "o" * many)
            for number in [-1, -2, 2 ** many, 2 ** many + 1, 10 ** 50, -(10 ** 50)]:
                with self.assertRaises(NoRow):
                    row_at(many, number)

    def test_wrong_many(self):
        for many in [0, -1, 31, 32, 100, 10 ** 50, -(10 ** 50)]:
            for number in [0, 1, -1, None, "x"]:
                with self.assertRaises(NoRow):
                    row_at(many, number)

    def test_what_is_no_whole_number(self):
        for thing in no_whole_numbers():
            with self.subTest(thing=repr(thing)):
                with self.assertRaises(NoRow):
                    row_at(thing, 0)
                with self.assertRaises(NoRow):
                    row_at(3, thing)
                with self.assertRaises(NoRow):
                    row_at(thing, thing)

    def test_number_of_what_is_no_row(self):
        for thing in no_rows():
            with self.subTest(thing=repr(thing)):
                with self.assertRaises(NoRow):
                    row_number(thing)


class TestMirrored(unittest.TestCase):

    def test_named_examples(self):
        for row, wanted in [("o", "."), (".", "o"), ("o.", "o."), (".o", ".o"), ("oo.", "o.."), ("o..", "oo."),
                            ("oo..o", ".oo.."), ("o" * 30, "." * 30), ("." * 29 + "o", "." + "o" * 29)]:
            self.assertEqual(mirrored(row), wanted)
            self.assertEqual(mirrored(row=row), wanted)

    def test_each_place(self):
        for row in rows_to_try():
            found = mirrored(row)
            self.assertEqual(len(found), len(row))
            for place, sign in enumerate(row):
                self.assertEqual(found[len(row) - 1 - place], "." if sign == "o" else "o")

    def test_twice(self):
        for row in rows_to_try():
            self.assertEqual(mirrored(mirrored(row)), row)

    def test_walls_in_the_mirror(self):
        for row in rows_to_try():
            walls = [len(row) - wall for wall in reversed(walls_of(row))]
            self.assertEqual(walls_of(mirrored(row)), walls)

    def test_what_is_no_row(self):
        for thing in no_rows():
            with self.subTest(thing=repr(thing)):
                with self.assertRaises(NoRow):
                    mirrored(thing)


class TestWalls(unittest.TestCase):

    def test_named_examples(self):
        for row, wanted in [(".", [0]), ("o", [1]), ("o.", [1]), (".o", [0, 2]), ("..", [0]), ("oo", [2]),
                            (".o.o", [0, 2, 4]), ("o.o.", [1, 3]), ("." * 30, [0]), ("o" * 30, [30]),
                            ("o." * 15, list(range(1, 30, 2))), (".o" * 15, list(range(0, 31, 2)))]:
            self.assertEqual(walls_of(row), wanted)
            self.assertEqual(walls_of(row=row), wanted)

    def test_each_wall(self):
        for row in rows_to_try():
            wanted = [wall for wall in range(len(row) + 1) if open_by_words(row, wall)]
            found = walls_of(row)
            self.assertIs(type(found), list)
            self.assertEqual(found, wanted)
            self.assertTrue(found)

    def test_told_lists_are_the_askers_own(self):
        for row in rows_to_try():
            first = walls_of(row)
            kept = list(first)
            second = walls_of(row)
            self.assertIsNot(first, second)
            first.append(99)
            first[0] = "x"
            self.assertEqual(second, kept)
            self.assertEqual(walls_of(row), kept)
            del second[:]
            self.assertEqual(walls_of(row), kept)
            self.assertEqual(changed(row, kept[-1]), changed_by_words(row, kept[-1]))

    def test_what_is_no_row(self):
        for thing in no_rows():
            with self.subTest(thing=repr(thing)):
                with self.assertRaises(NoRow):
                    walls_of(thing)


class TestChanged(unittest.TestCase):

    def test_named_examples(self):
        for row, wall, wanted in [(".", 0, "o"), ("o", 1, "."), ("..", 0, "o."), ("oo", 2, "o."), ("o.", 1, ".o"),
                                  (".o", 0, "oo"), (".o", 2, ".."), ("oo.", 2, "o.o"), ("oo..o", 2, "o.o.o"),
                                  ("oo..o", 5, "oo..."), ("." * 30, 0, "o" + "." * 29),
                                  ("o" * 30, 30, "o" * 29 + "."), ("o" * 15 + "." * 15, 15, "o" * 14 + ".o" + "." * 14)]:
            self.assertEqual(changed(row, wall), wanted)
            self.assertEqual(changed(wall=wall, row=row), wanted)

    def test_each_wall(self):
        for row in rows_to_try():
            for wall in range(len(row) + 1):
                if open_by_words(row, wall):
                    self.assertEqual(changed(row, wall), changed_by_words(row, wall))
                    self.assertEqual(changed(row, wall), changed_by_words(row, wall))
                else:
                    with self.assertRaises(NoWall) as caught:
                        changed(row, wall)
                    self.assertEqual(caught.exception.wall, wall)

    def test_what_is_no_wall_of_the_row(self):
        for row in rows_to_try():
            many = len(row)
            for wall in [-1, -2, -many, -many - 1, -many - 2, many + 1, many + 2, 1000, 10 ** 50, -(10 ** 50)]:
                with self.assertRaises(NoWall) as caught:
                    changed(row, wall)
                self.assertIs(caught.exception.wall, wall)

    def test_what_is_no_whole_number(self):
        for row in [".", "o", "o.", ".o", "o..", "...", ".o.o.", "." * 30]:
            for thing in no_whole_numbers():
                with self.subTest(row=row, thing=repr(thing)):
                    with self.assertRaises(NoWall) as caught:
                        changed(row, thing)
                    self.assertIs(caught.exception.wall, thing)
                    self.assertIsInstance(caught.exception, IndexError)
                    self.assertNotIsInstance(caught.exception, HopError)

    def test_true_and_false_at_open_walls(self):
        with self.assertRaises(NoWall) as caught:
            changed("o.", True)
        self.assertIs(caught.exception.wall, True)
        with self.assertRaises(NoWall) as caught:
            changed("..", False)
        self.assertIs(caught.exception.wall, False)

    def test_what_was_handed_in_is_not_changed(self):
        wall = [0, [1]]
        with self.assertRaises(NoWall) as caught:
            changed("..", wall)
        self.assertIs(caught.exception.wall, wall)
        self.assertEqual(wall, [0, [1]])
        row = ["o", "."]
        with self.assertRaises(NoRow):
            changed(row, 1)
        self.assertEqual(row, ["o", "."])

    def test_what_is_no_row_ahead_of_no_wall(self):
        for thing in no_rows():
            for wall in [0, 1, -1, 99, None, True, "x", []]:
                with self.subTest(thing=repr(thing), wall=repr(wall)):
                    with self.assertRaises(NoRow):
                        changed(thing, wall)


if __name__ == "__main__":
    unittest.main()
