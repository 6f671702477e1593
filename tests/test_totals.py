"""hopline.totals: points 21 and 22, and 2 as far as it speaks of totals."""

import time
import unittest
from fractions import Fraction
from math import comb, factorial

from hopline.errors import NoNumber, NoPace, NoRow
from hopline.parts import Part
from hopline.rows import mirrored
from hopline.totals import row_chance, through, total
from hopline.ways import ways_many
from hopline.weights import weight

from tests.heap_models import FEW_ROWS, LONG, MIDDLING
from tests.test_rows import rows_of
from tests.test_weights import weight_by_ends, weights_by_words
from tests.test_words import ends_from_the_right
from tests.things import check_no_paces, check_pace_arguments, fraction_of, no_rows, no_whole_numbers, part_of

INN = Part(2, 3)
OUT = Part(5, 7)
ONE = Part(1)
SIXTY = Part(10 ** 59 + 7, 10 ** 59 + 9)
PACES = [(None, None), (INN, OUT), (INN, None), (None, OUT), (Part(3), Part(1, 4)), (Part(6), Part(10)),
         (Part(1, 2), Part(1, 2)), (INN, INN), (SIXTY, Part(7, 10 ** 59))]
COME_TO_ONE = [(Part(1, 3), Part(2, 3)), (Part(1, 2), Part(1, 2)), (Part(9, 10), Part(1, 10))]
NO_MANIES = [-1, -2, 41, 42, 100, 10 ** 50, -(10 ** 50)]


def total_by_products(many, inn, out):
    """The total by numbers of ways that never go below, told by factorials, and Python's own fractions."""
    if many == 0:
        return Fraction(1)
    first, last = 1 / fraction_of(inn), 1 / fraction_of(out)
    result = Fraction(0)
    for signs in range(1, many + 1):
        often = signs * factorial(2 * many - 1 - signs) // (factorial(many) * factorial(many - signs))
        result += often * sum(first ** frees * last ** (signs - frees) for frees in range(signs + 1))
    return result


def chance_of(many, inn, out, wanted):
    """The chances of all rows of so many places that are wanted, together."""
    result = Part(0)
    for row in rows_of(many):
        if wanted(row):
            result = result.plus(row_chance(row, inn, out))
    return result


class TestTotal(unittest.TestCase):

    def test_no_places(self):
        for inn, out in PACES:
            self.assertEqual(total(0, inn, out), ONE)

    def test_by_hand(self):
        self.assertEqual(total(1, INN, OUT), Part(3, 2).plus(Part(7, 5)))
        self.assertEqual(total(2, INN, OUT), Part(9, 4).plus(Part(49, 25)).plus(Part(21, 10)).plus(Part(29, 10)))
        self.assertEqual(total(1), Part(2))
        self.assertEqual(total(2), Part(5))

    def test_sum_of_the_weights_of_all_rows(self):
        for many in range(1, 8):
            for inn, out in PACES:
                found = total(many, inn, out)
                self.assertIsInstance(found, Part)
                self.assertEqual(found, part_of(sum(weights_by_words(many, inn, out).values())))
        for many in range(1, 7):
            together = Part(0)
            for row in rows_of(many):
                together = together.plus(weight(row, INN, OUT))
            self.assertEqual(total(many, INN, OUT), together)

    def test_up_to_forty_places_in_no_long_time(self):
        start = time.perf_counter()
        found = [[total(many, inn, out) for many in range(41)] for inn, out in PACES]
        self.assertLess(time.perf_counter() - start, 40)
        for (inn, out), totals in zip(PACES, found):
            self.assertEqual(totals, [part_of(total_by_products(many, inn, out)) for many in range(41)])

    def test_as_many_as_ways_for_paces_of_one(self):
        for many in range(41):
            self.assertEqual(total(many), Part(ways_many(many + 1)))
            self.assertEqual(total(many, ONE, ONE), Part(comb(2 * many + 2, many + 1) // (many + 2)))

    def test_paces_exchanged(self):
        for many in list(range(9)) + [20, 40]:
            for inn, out in PACES:
                self.assertEqual(total(many, inn, out), total(many, out, inn))

    def test_paces_that_come_to_one(self):
        for many in range(41):
            for inn, out in COME_TO_ONE:
                self.assertEqual(total(many, inn, out), ONE.over(inn.times(out)).raised(many))

    def test_arguments(self):
        for many in [0, 1, 3, 40]:
            check_pace_arguments(self, lambda *paces, **named: total(many, *paces, **named))
            self.assertEqual(total(out=OUT, many=many, inn=INN), total(many, INN, OUT))
        found = [total(3), total(3, INN), total(3, None, OUT), total(3, INN, OUT), total(2, INN, OUT)]
        for at, one in enumerate(found):
            self.assertNotIn(one, found[:at])

    def test_refusals(self):
        for thing in NO_MANIES + no_whole_numbers():
            with self.subTest(thing=repr(thing)):
                for paces in [(), (INN, OUT), ("x", Part(0)), (None, 1)]:
                    with self.assertRaises(NoNumber):
                        total(thing, *paces)
        for many in [0, 1, 2, 40]:
            check_no_paces(self, lambda *paces, **named: total(many, *paces, **named))


class TestThrough(unittest.TestCase):

    def test_by_hand(self):
        self.assertEqual(through(1, INN, OUT), INN.times(OUT).over(INN.plus(OUT)))
        self.assertEqual(through(1), Part(1, 2))
        self.assertEqual(through(2), Part(2, 5))
        self.assertEqual(through(many=2), Part(2, 5))

    def test_the_total_of_one_place_less_by_that_of_all(self):
        for inn, out in PACES:
            for many in list(range(1, 12)) + [25, 39, 40]:
                found = through(many, inn, out)
                self.assertIsInstance(found, Part)
                less, every = total_by_products(many - 1, inn, out), total_by_products(many, inn, out)
                self.assertEqual(found, part_of(less / every))

    def test_all_numbers_of_places_for_paces_of_one(self):
        for many in range(1, 41):
            self.assertEqual(through(many), Part(many + 2, 4 * many + 2))

    def test_paces_that_come_to_one(self):
        for many in range(1, 41):
            for inn, out in COME_TO_ONE:
                self.assertEqual(through(many, inn, out), inn.times(out))

    def test_at_each_wall_alike(self):
        for many in range(1, 6):
            for inn, out in PACES:
                wanted = through(many, inn, out)
                comes_in = chance_of(many, inn, out, lambda row: row[0] == ".")
                goes_out = chance_of(many, inn, out, lambda row: row[-1] == "o")
                self.assertEqual((inn or ONE).times(comes_in), wanted)
                self.assertEqual((out or ONE).times(goes_out), wanted)
                for wall in range(1, many):
                    self.assertEqual(chance_of(many, inn, out, lambda row: row[wall - 1:wall + 1] == "o."), wanted)

    def test_arguments(self):
        for many in [1, 3, 40]:
            check_pace_arguments(self, lambda *paces, **named: through(many, *paces, **named))
            self.assertEqual(through(out=OUT, many=many, inn=INN), through(many, INN, OUT))

    def test_refusals(self):
        for thing in NO_MANIES + [0] + no_whole_numbers():
            with self.subTest(thing=repr(thing)):
                for paces in [(), (INN, OUT), ("x", Part(0)), (None, 1)]:
                    with self.assertRaises(NoNumber):
                        through(thing, *paces)
        for many in [1, 2, 40]:
            check_no_paces(self, lambda *paces, **named: through(many, *paces, **named))


class TestRowChance(unittest.TestCase):

    def test_by_hand(self):
        self.assertEqual(row_chance(".", INN, OUT), OUT.over(INN.plus(OUT)))
        self.assertEqual(row_chance("o", INN, OUT), INN.over(INN.plus(OUT)))
        self.assertEqual(row_chance("o."), Part(2, 5))
        self.assertEqual(row_chance(row=".o"), Part(1, 5))

    def test_chances_of_all_rows_come_to_one(self):
        for many in range(1, 7):
            for inn, out in PACES:
                self.assertEqual(chance_of(many, inn, out, lambda row: True), ONE)

    def test_weight_by_total(self):
        for row in FEW_ROWS + MIDDLING + LONG:
            for inn, out in PACES[:5]:
                found = row_chance(row, inn, out)
                self.assertIsInstance(found, Part)
                wanted = weight_by_ends(ends_from_the_right(row), inn, out) / total_by_products(len(row), inn, out)
                self.assertEqual(found, part_of(wanted))

    def test_paces_that_come_to_one(self):
        for row in FEW_ROWS + LONG:
            for inn, out in COME_TO_ONE:
                frees, beads = row.count("."), row.count("o")
                self.assertEqual(weight(row, inn, out), ONE.over(inn.raised(frees).times(out.raised(beads))))
                # So each place has a bead, whatever the others have, by the chance inn, and is free by out.
                self.assertEqual(row_chance(row, inn, out), out.raised(frees).times(inn.raised(beads)))

    def test_in_the_mirror(self):
        for row in FEW_ROWS + LONG:
            self.assertEqual(row_chance(mirrored(row), OUT, INN), row_chance(row, INN, OUT))

    def test_arguments(self):
        for row in ["o.o", ".oo.", "o..", "." * 30]:
            check_pace_arguments(self, lambda *paces, **named: row_chance(row, *paces, **named))
            self.assertEqual(row_chance(out=OUT, row=row, inn=INN), row_chance(row, INN, OUT))

    def test_refusals(self):
        for thing in no_rows():
            with self.subTest(thing=repr(thing)):
                for paces in [(), (INN, OUT), ("x", Part(0)), (None, 1)]:
                    with self.assertRaises(NoRow):
                        row_chance(thing, *paces)
        for row in [".", "o", "o.", "." * 30]:
            check_no_paces(self, lambda *paces, **named: row_chance(row, *paces, **named))


class TestOwnership(unittest.TestCase):

    def test_paces_are_not_changed(self):
        inn, out = Part(4, 6), Part(10, 14)
        for turn in range(2):
            for ask, given in [(total, 3), (through, 3), (row_chance, "o.o")]:
                ask(given, inn, out)
                with self.assertRaises(NoPace):
                    ask(given, inn, "x")
                self.assertEqual((inn.top, inn.bottom, out.top, out.bottom), (2, 3, 5, 7))

    def test_asked_twice_alike(self):
        for ask, given in [(total, 0), (total, 40), (through, 40), (row_chance, "o." * 15)]:
            self.assertEqual(ask(given, INN, OUT), ask(given, INN, OUT))


if __name__ == "__main__":
    unittest.main()
