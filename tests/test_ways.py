"""hopline.ways: point 20, and 2 as far as it speaks of ways."""

import random
import unittest
from itertools import product
from math import comb

from hopline.beneath import beneath_at, beneath_many
from hopline.errors import NoNumber, NoRow, NoWay
from hopline.ways import is_way, rows_of, way_of, ways_many

from tests.heap_models import FEW_ROWS, LONG, MIDDLING
from tests.test_beneath import GREAT, beneath_by_words, is_beneath_by_words
from tests.test_rows import rows_of as all_rows
from tests.things import no_rows, no_texts, no_whole_numbers


def is_way_by_words(text):
    """Whether a text is a way, by counting signs as point 20 tells it."""
    heads = [text[:many] for many in range(len(text) + 1)]
    return (all(sign in ["/", "-"] for sign in text) and text.count("/") == text.count("-")
            and all(head.count("-") <= head.count("/") for head in heads))


def ways_by_words(steps):
    """All ways of so many steps."""
    texts = ["".join(signs) for signs in product("/-", repeat=steps)]
    return [text for text in texts if is_way_by_words(text)]


def chance_way(steps, chooser):
    """A way of so many steps."""
    way, height = "", 0
    for left in range(steps, 0, -1):
        up = height == 0 or (height < left and chooser.randrange(2) == 0)
        way += "/" if up else "-"
        height += 1 if up else -1
    return way


def long_ways():
    chooser = random.Random(113)
    return [chance_way(steps, chooser) for steps in range(4, 63, 2) for turn in range(5)] + [
        "/-" * 31, "/" * 31 + "-" * 31, "//--" * 15 + "/-", "/" + "/-" * 30 + "-"]


def way_by_words(row, other):
    """The way of two rows, sign by sign as point 20 tells it."""
    way = "/"
    for place in range(len(row)):
        for sign in [row[place], other[place]]:
            way += "/" if sign == "o" else "-"
    return way + "-"


NO_WAYS = ["/", "-", "-/", "//", "--", "/--", "//-", "/-/", "/--/", "-/-/", "/-/-/", "//---/", "/-" * 15 + "--//",
           "//--x", "x", "o.", "/ -", " ", "/-\n", "\n", " /-", "/- ", "/_", "\\-", "/o.-", "/-/-" * 8 + "/", "/" * 62, "-" * 62]


class TestIsWay(unittest.TestCase):

    def test_all_texts_of_few_signs(self):
        for many in range(11):
            for signs in product("/-", repeat=many):
                text = "".join(signs)
                self.assertIs(is_way(text), is_way_by_words(text))

    def test_texts_with_other_signs(self):
        for many in range(1, 5):
            for signs in product("/-ox", repeat=many):
                text = "".join(signs)
                self.assertIs(is_way(text), is_way_by_words(text))

    def test_ways(self):
        for way in ["", "/-", "//--", "/-/-"] + long_ways():
            self.assertIs(is_way(way), True)
        self.assertIs(is_way(thing=""), True)
        self.assertIs(is_way("/-" * 32), True)
        self.assertIs(is_way("/" * 500 + "-" * 500), True)

    def test_bent_ways(self):
        for way in long_ways():
            for at in range(len(way)):
                turned = "-" if way[at] == "/" else "/"
                for text in [way[:at] + turned + way[at + 1:], way[:at] + way[at + 1:], way[:at] + "x" + way[at + 1:],
                             way[:at] + "/" + way[at:], way[:at] + "-" + way[at:], way[at:] + way[:at]]:
                    self.assertIs(is_way(text), is_way_by_words(text))

    def test_what_is_none(self):
        for thing in no_texts() + NO_WAYS + [["/", "-"], ("/", "-"), b"/-", b"", {"/": "-"}]:
            with self.subTest(thing=repr(thing)):
                self.assertIs(is_way(thing), False)


class TestTwoRows(unittest.TestCase):

    def test_by_hand(self):
        for row, other, way in [(".", "o", "/-/-"), ("o", ".", "//--"), ("o.", ".o", "//--/-"), ("o.", "o.", "///---"),
                                (".o", "o.", "/-//--"), ("..", "oo", "/-/-/-"), ("oo", "..", "//-/--"),
                                ("." * 30, "o" * 30, "/-" * 31), (GREAT, GREAT, "/" * 31 + "-" * 31)]:
            self.assertEqual(way_of(row, other), way)
            self.assertEqual(way_of(other=other, row=row), way)
            self.assertEqual(rows_of(way), (row, other))
            self.assertEqual(rows_of(way=way), (row, other))

    def test_each_way_comes_of_just_two_rows(self):
        for many in range(1, 6):
            found = []
            for row in all_rows(many):
                for other in beneath_by_words(row):
                    way = way_of(row, other)
                    self.assertEqual(way, way_by_words(row, other))
                    self.assertIs(is_way(way), True)
                    self.assertEqual(rows_of(way), (row, other))
                    found.append(way)
            self.assertEqual(sorted(found), sorted(ways_by_words(2 * many + 2)))
            self.assertEqual(len(found), ways_many(many + 1))

    def test_ways_of_four_to_sixty_two_steps(self):
        for way in long_ways():
            found = rows_of(way)
            self.assertIs(type(found), tuple)
            row, other = found
            self.assertEqual(len(row), len(way) // 2 - 1)
            self.assertTrue(is_beneath_by_words(row, other))
            self.assertEqual(way_of(row, other), way)

    def test_rows_of_many_places(self):
        for row in FEW_ROWS + MIDDLING + LONG:
            for number in [0, beneath_many(row) // 2, beneath_many(row) - 1]:
                other = beneath_at(row, number)
                way = way_of(row, other)
                self.assertEqual(way, way_by_words(row, other))
                self.assertEqual(rows_of(way), (row, other))

    def test_what_are_no_rows(self):
        for thing in no_rows():
            with self.subTest(thing=repr(thing)):
                for call in [lambda: way_of(thing, "o"), lambda: way_of(thing, thing), lambda: way_of(".", thing),
                             lambda: way_of("." * 30, thing), lambda: way_of(thing, None), lambda: way_of("o", thing)]:
                    with self.assertRaises(NoRow):
                        call()
        for row in [row for row in FEW_ROWS if len(row) < 5]:
            for other in FEW_ROWS:
                if not is_beneath_by_words(row, other):
                    with self.assertRaises(NoRow):
                        way_of(row, other)

    def test_what_is_no_way_or_too_short_or_too_long(self):
        chooser = random.Random(127)
        for thing in no_texts() + NO_WAYS + ["", "/-", "/-" * 32, "/" * 32 + "-" * 32, chance_way(64, chooser),
                                             chance_way(66, chooser), "/-" * 40, "/-" * 500, ["/", "/", "-", "-"]]:
            with self.subTest(thing=repr(thing)):
                with self.assertRaises(NoWay):
                    rows_of(thing)

    def test_what_is_handed_in_stays_as_it_is(self):
        way, row = ["/", ["-"]], ["o", ["."]]
        with self.assertRaises(NoWay):
            rows_of(way)
        with self.assertRaises(NoRow):
            way_of("o.", row)
        with self.assertRaises(NoRow):
            way_of(row, "o.")
        self.assertIs(is_way(way), False)
        self.assertEqual((way, row), (["/", ["-"]], ["o", ["."]]))


class TestWaysMany(unittest.TestCase):

    def test_few_steps(self):
        self.assertEqual([ways_many(many) for many in range(8)], [1, 1, 2, 5, 14, 42, 132, 429])
        for many in range(7):
            self.assertEqual(ways_many(many), len(ways_by_words(2 * many)))
        self.assertEqual(ways_many(many=3), 5)

    def test_all_that_are_told(self):
        for many in range(42):
            self.assertEqual(ways_many(many), comb(2 * many, many) // (many + 1))
            self.assertIs(type(ways_many(many)), int)
        for many in range(41):
            self.assertEqual(ways_many(many + 1), sum(ways_many(up) * ways_many(many - up) for up in range(many + 1)))

    def test_what_is_no_number(self):
        for thing in [-1, -2, 42, 43, 100, 10 ** 50, -(10 ** 50)] + no_whole_numbers():
            with self.subTest(thing=repr(thing)):
                with self.assertRaises(NoNumber):
                    ways_many(thing)


if __name__ == "__main__":
    unittest.main()
