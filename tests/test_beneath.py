"""hopline.beneath: point 19, and 2 as far as it speaks of rows beneath rows."""

import random
import time
import unittest
from functools import lru_cache
from math import comb

from hopline.beneath import beneath_at, beneath_many, beneath_number, is_beneath
from hopline.errors import NoNumber, NoRow
from hopline.parts import Part
from hopline.rows import mirrored
from hopline.weights import weight

from tests.heap_models import FEW_ROWS, LONG, MIDDLING
from tests.test_courses import numbers_to_try
from tests.test_rows import rows_of
from tests.test_words import chance_words
from tests.things import no_rows, no_whole_numbers

GREAT = "o" * 15 + "." * 15
TENS = chance_words(6, 10, 97) + ["o" * 5 + "." * 5, "o." * 5, "." * 5 + "o" * 5, ".o" * 5]


def is_beneath_by_words(row, other):
    """Whether another row is beneath a row, by counting signs as point 19 tells it."""
    if len(other) != len(row) or (row + other).count("o") != (row + other).count("."):
        return False
    heads = [row[:many] + other[:many] for many in range(len(row) + 1)]
    return all(head.count("o") >= head.count(".") for head in heads)


def beneath_by_words(row):
    """All rows beneath a row, sorted."""
    return sorted(other for other in rows_of(len(row)) if is_beneath_by_words(row, other))


def number_by_words(row, other):
    """The number of a row beneath a row: how many are sorted ahead of it, place by place."""
    @lru_cache(maxsize=None)
    def going_on(place, more):
        if more < 0:
            return 0
        if place == len(row):
            return 1 if more == 0 else 0
        above = more + (1 if row[place] == "o" else -1)
        return going_on(place + 1, above - 1) + going_on(place + 1, above + 1)

    more = number = 0
    for place in range(len(row)):
        above = more + (1 if row[place] == "o" else -1)
        if other[place] == "o":
            number += going_on(place + 1, above - 1)
        more = above + (1 if other[place] == "o" else -1)
    return number


def bent_rows(other):
    """A row, bent in many ways."""
    for place in range(len(other)):
        yield other[:place] + ("." if other[place] == "o" else "o") + other[place + 1:]
        yield other[:place] + other[place + 1:]
        yield other[:place] + "x" + other[place + 1:]
        for sign in "o.":
            yield other[:place] + sign + other[place:]
        for far in range(place + 1, len(other)):
            yield other[:place] + other[far] + other[place + 1:far] + other[place] + other[far + 1:]
    yield other + "o"
    yield other + "."
    yield other[::-1]
    yield mirrored(other)
    yield other.upper()
    yield other + "\n"
    yield list(other)
    yield tuple(other)
    yield other.encode()


class TestIsBeneath(unittest.TestCase):

    def test_named_examples(self):
        for row, other in [(".", "o"), ("o", "."), ("o.", ".o"), ("o.", "o."), (".o", "o."), ("..", "oo"), ("oo", ".."),
                           ("oo.", ".o."), ("." * 30, "o" * 30), ("o" * 30, "." * 30), ("o." * 15, ".o" * 15),
                           ("o." * 15, "o." * 15), (".o" * 15, "o." * 15), (GREAT, GREAT),
                           (GREAT, "." * 15 + "o" * 15)]:
            self.assertIs(is_beneath(row, other), True)
            self.assertIs(is_beneath(thing=other, row=row), True)
        for row, other in [(".", "."), ("o", "o"), (".o", ".o"), (".o", "oo"), (".o", ".."), ("..", "o."), ("o.", ".."),
                           ("o.", "oo"), ("." * 15 + "o" * 15, "." * 15 + "o" * 15), (".", "oo"), ("..", "o"),
                           ("o.", "."), (".o" * 15, ".o" * 15), ("o", ".."), ("o", "")]:
            self.assertIs(is_beneath(row, other), False)

    def test_any_rows_of_few_places(self):
        for row in FEW_ROWS:
            for other in FEW_ROWS:
                if len(other) in (len(row) - 1, len(row), len(row) + 1):
                    self.assertIs(is_beneath(row, other), is_beneath_by_words(row, other))

    def test_any_rows_of_thirty_places(self):
        for row in LONG:
            for other in LONG + chance_words(20, 30, 101):
                self.assertIs(is_beneath(row, other), is_beneath_by_words(row, other))

    def test_bent_rows(self):
        for row in FEW_ROWS + LONG:
            for other in [beneath_at(row, 0), beneath_at(row, beneath_many(row) // 2)]:
                self.assertIs(is_beneath(row, other), True)
                for thing in bent_rows(other):
                    wanted = (isinstance(thing, str) and thing.strip("o.") == "" and is_beneath_by_words(row, thing))
                    self.assertIs(is_beneath(row, thing), wanted, (row, thing))

    def test_things_that_are_no_rows(self):
        for row in [".", "o", "o.", "." * 30, GREAT]:
            for thing in no_rows():
                with self.subTest(row=row, thing=repr(thing)):
                    self.assertIs(is_beneath(row, thing), False)

    def test_what_is_no_row(self):
        for thing in no_rows():
            for other in ["o", ".", "", None, thing, [], "o" * 31]:
                with self.subTest(thing=repr(thing), other=repr(other)):
                    with self.assertRaises(NoRow):
                        is_beneath(thing, other)


class TestNumbers(unittest.TestCase):

    def test_all_of_short_rows(self):
        for row in FEW_ROWS + TENS:
            wanted = beneath_by_words(row)
            self.assertEqual(beneath_many(row), len(wanted))
            self.assertIs(type(beneath_many(row)), int)
            self.assertEqual([beneath_at(row, number) for number in range(len(wanted))], wanted)
            for number, other in enumerate(wanted):
                self.assertEqual(beneath_number(row, other), number)

    def test_by_hand(self):
        self.assertEqual([beneath_at("oo.", number) for number in range(3)], ["..o", ".o.", "o.."])
        self.assertEqual([beneath_at("o.", number) for number in range(2)], [".o", "o."])
        self.assertEqual(beneath_at(number=1, row="o."), "o.")
        self.assertEqual(beneath_number(other="o.", row="o."), 1)
        self.assertEqual(beneath_many(row="oo."), 3)

    def test_as_many_as_the_weight_tells(self):
        for row in FEW_ROWS + TENS + MIDDLING + LONG:
            self.assertEqual(Part(beneath_many(row)), weight(row))
            self.assertEqual(Part(beneath_many(row)), weight(row, Part(1), Part(1)))
        self.assertEqual(beneath_many(GREAT), comb(30, 15))
        for row in ["." * 30, "o" * 30, ".", "o", "." * 15 + "o" * 15]:
            self.assertEqual(beneath_many(row), 1)

    def test_there_and_back_in_rows_of_many_places(self):
        for row in MIDDLING + LONG:
            many = beneath_many(row)
            found = []
            for number in numbers_to_try(many, 103):
                other = beneath_at(row, number)
                found.append(other)
                self.assertTrue(is_beneath_by_words(row, other))
                self.assertEqual(beneath_number(row, other), number)
                self.assertEqual(number_by_words(row, other), number)
            self.assertEqual(found, sorted(found))

    def test_the_first_and_the_last(self):
        self.assertEqual(beneath_at(GREAT, 0), "." * 15 + "o" * 15)
        self.assertEqual(beneath_at(GREAT, 1), "." * 14 + "o." + "o" * 14)
        self.assertEqual(beneath_at(GREAT, comb(30, 15) - 1), GREAT)
        self.assertEqual(beneath_number(GREAT, GREAT), comb(30, 15) - 1)
        self.assertEqual(beneath_at("o." * 15, 0), ".o" * 15)
        self.assertEqual(beneath_at("o." * 15, beneath_many("o." * 15) - 1), "o" * 15 + "." * 15)
        for row in ["." * 30, "o" * 30]:
            self.assertEqual(beneath_at(row, 0), mirrored(row))
            self.assertEqual(beneath_number(row, mirrored(row)), 0)

    def test_in_no_long_time(self):
        start = time.perf_counter()
        for row in [GREAT] + LONG:
            for number in numbers_to_try(beneath_many(row), 107):
                beneath_number(row, beneath_at(row, number))
        self.assertLess(time.perf_counter() - start, 20)

    def test_asked_twice_alike(self):
        chooser = random.Random(109)
        for row in LONG:
            number = chooser.randrange(beneath_many(row))
            self.assertEqual(beneath_at(row, number), beneath_at(row, number))
            self.assertEqual(beneath_many(row), beneath_many(row))


class TestRefusals(unittest.TestCase):

    def test_what_is_no_number(self):
        for row in [".", "o", "o.", "oo..", GREAT, LONG[10]]:
            many = beneath_many(row)
            for number in [-1, -2, -many, many, many + 1, 10 ** 50, -(10 ** 50)] + no_whole_numbers():
                with self.subTest(row=row, number=repr(number)):
                    with self.assertRaises(NoNumber):
                        beneath_at(row, number)

    def test_what_is_none_beneath(self):
        for row in [".", "o", "o.", "oo..", "." * 30, GREAT]:
            for thing in no_rows():
                with self.subTest(row=row, thing=repr(thing)):
                    with self.assertRaises(NoRow):
                        beneath_number(row, thing)
        for row in [row for row in FEW_ROWS if len(row) < 5]:
            for other in FEW_ROWS:
                if not is_beneath_by_words(row, other):
                    with self.assertRaises(NoRow):
                        beneath_number(row, other)

    def test_what_is_no_row_ahead_of_all_else(self):
        for thing in no_rows():
            with self.subTest(thing=repr(thing)):
                for call in [lambda: beneath_many(thing), lambda: beneath_at(thing, 0), lambda: beneath_at(thing, -1),
                             lambda: beneath_at(thing, None), lambda: beneath_number(thing, "o"),
                             lambda: beneath_number(thing, thing), lambda: beneath_number(thing, None)]:
                    with self.assertRaises(NoRow):
                        call()

    def test_what_is_handed_in_stays_as_it_is(self):
        thing, number = ["o", ["."]], [0]
        self.assertIs(is_beneath("o.", thing), False)
        with self.assertRaises(NoRow):
            beneath_number("o.", thing)
        with self.assertRaises(NoNumber):
            beneath_at("o.", number)
        with self.assertRaises(NoRow):
            beneath_many(thing)
        self.assertEqual((thing, number), (["o", ["."]], [0]))


if __name__ == "__main__":
    unittest.main()
