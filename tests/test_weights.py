"""hopline.weights: points 12 and 13, and 2 as far as it speaks of weights."""

import unittest
from fractions import Fraction
from math import comb

from hopline.errors import NoPace, NoRow
from hopline.parts import Part
from hopline.rows import changed, mirrored, walls_of
from hopline.weights import ahead_of, comes, goes, weight

from tests.test_rows import LONG_ROWS, changed_by_words, open_by_words, rows_of, rows_to_try
from tests.test_words import chance_words, ends_by_words, ends_from_the_right, last
from tests.things import fraction_of, looked_at, no_paces, no_rows, part_of

INN = Part(2, 3)
OUT = Part(5, 7)
ONE = Part(1)
SIXTY = Part(10 ** 59 + 7, 10 ** 59 + 9)
PACES = [(None, None), (INN, OUT), (INN, None), (None, OUT), (Part(3), Part(1, 4)), (Part(1, 2), Part(1, 2)),
         (Part(6), Part(10)), (SIXTY, Part(7, 10 ** 59))]
FEW_ROWS = [row for many in range(1, 7) for row in rows_of(many)]
LONG = LONG_ROWS + chance_words(4, 30, 13)


def weight_by_ends(ends, inn, out):
    """The weight that these ends come to, by Python's own fractions."""
    return sum(Fraction(many) / fraction_of(inn) ** frees / fraction_of(out) ** beads for frees, beads, many in ends)


def weights_by_words(many, inn, out):
    """The weights of all rows of so many places, by shortening them."""
    return {row: weight_by_ends(ends_by_words(row, last), inn, out) for row in rows_of(many)}


def all_changes(many):
    """All tuples (row, wall, row behind it) of all rows of so many places, wall by wall."""
    return [(row, wall, changed_by_words(row, wall)) for wall in range(many + 1) for row in rows_of(many)
            if open_by_words(row, wall)]


def pace_by_words(many, wall, inn, out):
    return fraction_of(inn) if wall == 0 else fraction_of(out) if wall == many else Fraction(1)


class TestWeight(unittest.TestCase):

    def test_one_place(self):
        for inn, out in PACES:
            self.assertEqual(weight(".", inn, out), ONE.over(inn or ONE))
            self.assertEqual(weight("o", inn, out), ONE.over(out or ONE))
        self.assertEqual(weight(".", Part(2, 3), Part(5, 7)), Part(3, 2))
        self.assertEqual(weight("o", Part(2, 3), Part(5, 7)), Part(7, 5))

    def test_two_places_by_hand(self):
        for row, wanted in [("..", Part(9, 4)), ("oo", Part(49, 25)), (".o", Part(21, 10)), ("o.", Part(29, 10))]:
            self.assertEqual(weight(row, INN, OUT), wanted)

    def test_rows_of_few_places(self):
        for many in range(1, 7):
            for inn, out in PACES:
                for row, wanted in weights_by_words(many, inn, out).items():
                    found = weight(row, inn, out)
                    self.assertIsInstance(found, Part)
                    self.assertEqual(found, part_of(wanted))
                    self.assertGreater(found.top, 0)
                    self.assertEqual(weight(row, inn, out), found)

    def test_rows_of_thirty_places(self):
        for row in LONG:
            for inn, out in PACES:
                with self.subTest(row=row, inn=inn, out=out):
                    wanted = weight_by_ends(ends_from_the_right(row), inn, out)
                    self.assertEqual(weight(row, inn, out), part_of(wanted))

    def test_all_free_and_all_beads(self):
        for many in range(1, 31):
            self.assertEqual(weight("." * many, INN, OUT), Part(3, 2).raised(many))
            self.assertEqual(weight("o" * many, INN, OUT), Part(7, 5).raised(many))
        self.assertEqual(weight("." * 30, SIXTY), ONE.over(SIXTY).raised(30))
        self.assertEqual(weight("o" * 30, None, SIXTY), ONE.over(SIXTY).raised(30))
        self.assertEqual(weight("." * 30), ONE)
        self.assertEqual(weight("o" * 30), ONE)

    def test_whole_numbers_for_paces_of_one(self):
        for row in FEW_ROWS + LONG:
            for found in [weight(row), weight(row, ONE, ONE)]:
                self.assertEqual(found.bottom, 1)
                self.assertEqual(found.top, sum(many for frees, beads, many in ends_from_the_right(row)))
        self.assertEqual(weight("o" * 15 + "." * 15), Part(comb(30, 15)))

    def test_paces_that_come_to_one(self):
        for row in FEW_ROWS + LONG:
            for inn, out in [(Part(1, 3), Part(2, 3)), (Part(1, 2), Part(1, 2)), (Part(9, 10), Part(1, 10))]:
                wanted = ONE.over(inn.raised(row.count("."))).over(out.raised(row.count("o")))
                self.assertEqual(weight(row, inn, out), wanted)

    def test_in_the_mirror(self):
        for row in FEW_ROWS + LONG:
            self.assertEqual(weight(mirrored(row), OUT, INN), weight(row, INN, OUT))


class TestAheadOf(unittest.TestCase):

    def test_named_examples(self):
        for row, wanted in [(".", [(1, "o")]), ("o", [(0, ".")]), ("..", [(2, ".o")]), ("oo", [(0, ".o")]),
                            (".o", [(1, "o.")]), ("o.", [(0, ".."), (2, "oo")]),
                            ("o.o.", [(0, "..o."), (2, "oo.."), (4, "o.oo")]),
                            ("." * 30, [(30, "." * 29 + "o")]), ("o" * 30, [(0, "." + "o" * 29)])]:
            self.assertEqual(ahead_of(row), wanted)
            self.assertEqual(ahead_of(row=row), wanted)

    def test_all_rows_of_few_places(self):
        for many in range(1, 9):
            every = all_changes(many)
            for row in rows_of(many):
                found = ahead_of(row)
                self.assertEqual(found, [(wall, ahead) for ahead, wall, behind in every if behind == row])
                self.assertEqual([wall for wall, ahead in found], sorted(wall for wall, ahead in found))

    def test_rows_of_thirty_places(self):
        for row in LONG:
            found = ahead_of(row)
            walls = [wall for wall, ahead in found]
            self.assertEqual(walls, [wall for wall in range(31) if (wall == 0 or row[wall - 1] == ".")
                                     and (wall == 30 or row[wall] == "o")])
            for wall, ahead in found:
                self.assertEqual(changed(ahead, wall), row)

    def test_kinds_of_what_is_told(self):
        for row in FEW_ROWS:
            found = ahead_of(row)
            self.assertIs(type(found), list)
            for pair in found:
                self.assertIs(type(pair), tuple)
                self.assertEqual(len(pair), 2)

    def test_told_lists_are_the_askers_own(self):
        for row in rows_to_try():
            one, other = ahead_of(row), ahead_of(row)
            kept = list(one)
            self.assertIsNot(one, other)
            one.append((0, "x"))
            one[0] = None
            self.assertEqual(other, kept)
            del other[:]
            self.assertEqual(ahead_of(row), kept)
        before = comes("o.o", INN, OUT)
        ahead_of("o.o").clear()
        self.assertEqual(comes("o.o", INN, OUT), before)

    def test_what_is_no_row(self):
        for thing in no_rows():
            with self.subTest(thing=repr(thing)):
                with self.assertRaises(NoRow):
                    ahead_of(thing)


class TestComesAndGoes(unittest.TestCase):

    def test_by_hand(self):
        # Two places: from o. goes its weight at wall 1; to it comes from .. by inn and from oo by out.
        self.assertEqual(goes("o.", INN, OUT), Part(29, 10))
        self.assertEqual(comes("o.", INN, OUT), Part(9, 4).times(INN).plus(Part(49, 25).times(OUT)))
        self.assertEqual(goes(".", INN, OUT), ONE)
        self.assertEqual(comes("o", INN, OUT), ONE)
        self.assertEqual(goes(".o", Part(2), Part(3)), Part(5, 6))

    def test_the_same_at_all_rows_of_few_places(self):
        for many in range(1, 7):
            for inn, out in PACES:
                for row in rows_of(many):
                    come, go = comes(row, inn, out), goes(row, inn, out)
                    self.assertIsInstance(come, Part)
                    self.assertIsInstance(go, Part)
                    self.assertEqual(come, go)

    def test_as_told_by_the_weights(self):
        for many in range(1, 6):
            every = all_changes(many)
            for inn, out in PACES:
                weights = weights_by_words(many, inn, out)
                for row in rows_of(many):
                    go = sum(weights[row] * pace_by_words(many, wall, inn, out)
                             for ahead, wall, behind in every if ahead == row)
                    come = sum(weights[ahead] * pace_by_words(many, wall, inn, out)
                               for ahead, wall, behind in every if behind == row)
                    self.assertEqual(goes(row, inn, out), part_of(go))
                    self.assertEqual(comes(row, inn, out), part_of(come))

    def test_the_same_at_rows_of_thirty_places(self):
        for row in LONG:
            for inn, out in [(None, None), (INN, OUT), (Part(3), Part(1, 4))]:
                together = sum(pace_by_words(30, wall, inn, out) for wall in walls_of(row))
                wanted = part_of(together * weight_by_ends(ends_from_the_right(row), inn, out))
                self.assertEqual(goes(row, inn, out), wanted)
                self.assertEqual(comes(row, inn, out), wanted)


class TestArguments(unittest.TestCase):

    def test_by_place_by_name_none_and_left_out(self):
        for row in ["o.o", ".oo.", "o..", "." * 30]:
            for ask in [weight, comes, goes]:
                for found, wanted in [
                        (ask(row), ask(row, ONE, ONE)), (ask(row, None, None), ask(row, ONE, ONE)),
                        (ask(row, inn=None), ask(row, ONE, ONE)), (ask(row, INN), ask(row, INN, ONE)),
                        (ask(row, inn=INN), ask(row, INN, ONE)), (ask(row, INN, None), ask(row, INN, ONE)),
                        (ask(row, None, OUT), ask(row, ONE, OUT)), (ask(row, out=OUT), ask(row, ONE, OUT)),
                        (ask(row=row, inn=None, out=OUT), ask(row, ONE, OUT)),
                        (ask(out=OUT, inn=INN, row=row), ask(row, INN, OUT)),
                        (ask(row, out=OUT, inn=INN), ask(row, INN, OUT))]:
                    self.assertEqual(found, wanted)

    def test_unlike_paces_are_told_apart(self):
        for ask in [weight, comes, goes]:
            for row in ["o.o", ".oo", "o..", ".o.oo"]:
                found = [ask(row), ask(row, INN), ask(row, None, OUT), ask(row, INN, OUT), ask(row, OUT, INN)]
                for at, one in enumerate(found):
                    self.assertNotIn(one, found[:at])

    def test_no_row_ahead_of_no_pace(self):
        for ask in [weight, comes, goes]:
            for thing in no_rows():
                with self.subTest(ask=ask.__name__, thing=repr(thing)):
                    for call in [lambda: ask(thing), lambda: ask(thing, INN, OUT), lambda: ask(thing, "x", Part(0)),
                                 lambda: ask(row=thing, out=0)]:
                        with self.assertRaises(NoRow):
                            call()

    def test_no_paces(self):
        for ask in [weight, comes, goes]:
            for thing in no_paces():
                for row in [".", "o", "o.", ".o", "." * 30, "o" * 30]:
                    with self.subTest(ask=ask.__name__, thing=repr(thing), row=row):
                        for call in [lambda: ask(row, thing), lambda: ask(row, thing, OUT),
                                     lambda: ask(row, INN, thing), lambda: ask(row, inn=thing), lambda: ask(row, out=thing),
                                     lambda: ask(row, None, thing), lambda: ask(row, thing, thing)]:
                            with self.assertRaises(NoPace):
                                call()

    def test_inn_is_looked_at_first(self):
        for ask in [weight, comes, goes]:
            for row in [".", "o", "o.", ".o"]:
                self.assertEqual(looked_at(lambda inn, out: ask(row, inn, out)), {"inn"})

    def test_paces_are_not_changed(self):
        inn, out = Part(4, 6), Part(10, 14)
        for turn in range(2):
            for ask in [weight, comes, goes]:
                ask(".o.o", inn, out)
                with self.assertRaises(NoPace):
                    ask(".o", inn, "x")
            self.assertEqual((inn.top, inn.bottom, out.top, out.bottom), (2, 3, 5, 7))

    def test_asked_twice_alike(self):
        for ask in [weight, comes, goes]:
            for row in FEW_ROWS[:20] + LONG:
                self.assertEqual(ask(row, INN, OUT), ask(row, INN, OUT))


if __name__ == "__main__":
    unittest.main()
