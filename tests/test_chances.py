"""hopline.chances: points 23 and 24, 22 once more, and 2 as far as it speaks of chances."""

import time
import unittest
from fractions import Fraction
from itertools import product

from hopline.chances import bead_chance, beads_on, both_chance, number_chances, wall_chance
from hopline.errors import NoNumber, NoPace, NoPlace, NoWall
from hopline.parts import Part
from hopline.totals import through

from tests.test_totals import COME_TO_ONE, PACES, total_by_products
from tests.test_weights import weights_by_words
from tests.things import check_no_paces, check_pace_arguments, fraction_of, no_whole_numbers, part_of

INN = Part(2, 3)
OUT = Part(5, 7)
ONE = Part(1)
FEW = range(1, 7)
NO_MANIES = [0, -1, -2, 31, 32, 100, 10 ** 50, -(10 ** 50)]
NO_PACES_AT_ALL = [(), (INN, OUT), ("x", Part(0)), (None, 1)]


def chances_by_rows(many, inn, out):
    """The chances of all rows of so many places, by shortening each of them."""
    weights = weights_by_words(many, inn, out)
    together = sum(weights.values())
    return {row: worth / together for row, worth in weights.items()}


def chance_where(chances, wanted):
    return part_of(sum((chance for row, chance in chances.items() if wanted(row)), Fraction(0)))


class Squares:
    """Two squares of numbers, told by what they do to a line of numbers, that come to the weights of rows.

    For a bead: 1 by out in the corner, else 1 in the middle and 1 to the right of it, but for the first one;
    for a free place: 1 by inn in the corner, else 1 in the middle and 1 to the left of it. A bead times a free place
    is the sum of both, and the corner of a product, sign by sign, is the weight of the row.
    """

    def __init__(self, inn, out):
        self.first, self.last = 1 / fraction_of(inn), 1 / fraction_of(out)
        self.beside = self.first + self.last - self.first * self.last

    def bead(self, line):
        right = [Fraction(0), line[0] * self.beside] + line[1:]
        middle = [line[0] * self.last] + line[1:] + [Fraction(0)]
        return [one + other for one, other in zip(middle, right)]

    def free(self, line):
        middle = [line[0] * self.first] + line[1:]
        left = line[1:] + [Fraction(0)]
        return [one + other for one, other in zip(middle, left)]

    def weight(self, signs):
        """The weights together of all rows with these signs, `?` where each one may stand."""
        line = [Fraction(1)]
        for sign in signs:
            both = ([self.bead(line)] if sign in "o?" else []) + ([self.free(line)] if sign in ".?" else [])
            longest = max(len(each) for each in both)
            padded = [each + [Fraction(0)] * (longest - len(each)) for each in both]
            line = [sum(items) for items in zip(*padded)]
        return line[0]

    def weights_by_beads(self, many):
        lines = {0: [Fraction(1)]}
        for turn in range(many):
            longer = {}
            for beads, line in lines.items():
                for then, each in [(beads + 1, self.bead(line)), (beads, self.free(line))]:
                    other = longer.get(then, [])
                    longest = max(len(each), len(other))
                    each, other = [part + [Fraction(0)] * (longest - len(part)) for part in (each, other)]
                    longer[then] = [one + two for one, two in zip(each, other)]
            lines = longer
        return [lines[beads][0] for beads in range(many + 1)]


def signs_with(many, signs):
    return "".join(signs.get(place, "?") for place in range(many))


class TestSquares(unittest.TestCase):
    """What the other tests are held against, held against rows themselves."""

    def test_weights_of_rows(self):
        for many in range(1, 6):
            for inn, out in PACES:
                for row, wanted in weights_by_words(many, inn, out).items():
                    self.assertEqual(Squares(inn, out).weight(row), wanted)
        for inn, out in PACES:
            self.assertEqual(Squares(inn, out).weight("?" * 30), total_by_products(30, inn, out))


class TestFewPlaces(unittest.TestCase):

    def test_by_hand(self):
        self.assertEqual(bead_chance(1, 0, INN, OUT), INN.over(INN.plus(OUT)))
        self.assertEqual(bead_chance(1, 0), Part(1, 2))
        self.assertEqual([bead_chance(2, place) for place in range(2)], [Part(3, 5), Part(2, 5)])
        self.assertEqual(both_chance(2, 0, 1), Part(1, 5))
        self.assertEqual(wall_chance(2, 1), Part(2, 5))
        self.assertEqual(beads_on(2), Part(1))
        self.assertEqual(number_chances(1), [Part(1, 2), Part(1, 2)])
        self.assertEqual(number_chances(2), [Part(1, 5), Part(3, 5), Part(1, 5)])
        self.assertEqual(number_chances(1, INN, OUT), [OUT.over(INN.plus(OUT)), INN.over(INN.plus(OUT))])

    def test_each_place(self):
        for many, (inn, out) in product(FEW, PACES):
            chances = chances_by_rows(many, inn, out)
            for place in range(many):
                found = bead_chance(many, place, inn, out)
                self.assertIsInstance(found, Part)
                self.assertEqual(found, chance_where(chances, lambda row: row[place] == "o"))

    def test_each_two_places(self):
        for many, (inn, out) in product(FEW, PACES):
            chances = chances_by_rows(many, inn, out)
            for one, other in product(range(many), repeat=2):
                found = both_chance(many, one, other, inn, out)
                self.assertIsInstance(found, Part)
                self.assertEqual(found, chance_where(chances, lambda row: row[one] == row[other] == "o"))

    def test_each_wall_between_two_places(self):
        for many, (inn, out) in product(FEW, PACES):
            chances = chances_by_rows(many, inn, out)
            for wall in range(1, many):
                found = wall_chance(many, wall, inn, out)
                self.assertIsInstance(found, Part)
                self.assertEqual(found, chance_where(chances, lambda row: row[wall - 1:wall + 1] == "o."))

    def test_beads_on_the_way(self):
        for many, (inn, out) in product(FEW, PACES):
            chances = chances_by_rows(many, inn, out)
            found = beads_on(many, inn, out)
            self.assertIsInstance(found, Part)
            self.assertEqual(found, part_of(sum(chance * row.count("o") for row, chance in chances.items())))

    def test_each_number_of_beads(self):
        for many, (inn, out) in product(FEW, PACES):
            chances = chances_by_rows(many, inn, out)
            found = number_chances(many, inn, out)
            self.assertIs(type(found), list)
            self.assertEqual(found, [chance_where(chances, lambda row: row.count("o") == beads)
                                     for beads in range(many + 1)])
            for each in found:
                self.assertIsInstance(each, Part)


class TestManyPlaces(unittest.TestCase):

    def test_each_place_wall_and_two_places_of_thirty(self):
        start = time.perf_counter()
        places = [bead_chance(30, place, INN, OUT) for place in range(30)]
        walls = [wall_chance(30, wall, INN, OUT) for wall in range(1, 30)]
        both = {(one, other): both_chance(30, one, other, INN, OUT) for one, other in product(range(30), repeat=2)}
        beads = beads_on(30, INN, OUT)
        numbers = number_chances(30, INN, OUT)
        self.assertLess(time.perf_counter() - start, 60)
        squares = Squares(INN, OUT)
        together = total_by_products(30, INN, OUT)
        for place in range(30):
            self.assertEqual(places[place], part_of(squares.weight(signs_with(30, {place: "o"})) / together))
        for wall in range(1, 30):
            wanted = part_of(squares.weight(signs_with(30, {wall - 1: "o", wall: "."})) / together)
            self.assertEqual(walls[wall - 1], wanted)
        for one, other in both:
            self.assertEqual(both[one, other], both[other, one])
            if one == other:
                self.assertEqual(both[one, one], places[one])
            elif one < other and (one + other) % 5 == 0:
                wanted = part_of(squares.weight(signs_with(30, {one: "o", other: "o"})) / together)
                self.assertEqual(both[one, other], wanted)
        self.assertEqual(beads, part_of(sum(fraction_of(each) for each in places)))
        self.assertEqual(numbers, [part_of(each / together) for each in squares.weights_by_beads(30)])

    def test_paces_of_sixty_figures_in_no_long_time(self):
        inn, out = PACES[-1]
        start = time.perf_counter()
        found = [bead_chance(30, 11, inn, out), both_chance(30, 7, 22, inn, out), wall_chance(30, 16, inn, out)]
        beads, numbers = beads_on(30, inn, out), number_chances(30, inn, out)
        self.assertLess(time.perf_counter() - start, 30)
        squares = Squares(inn, out)
        together = squares.weight("?" * 30)
        for each, signs in zip(found, [{11: "o"}, {7: "o", 22: "o"}, {15: "o", 16: "."}]):
            self.assertEqual(each, part_of(squares.weight(signs_with(30, signs)) / together))
        wanted = [part_of(each / together) for each in squares.weights_by_beads(30)]
        self.assertEqual(numbers, wanted)
        self.assertEqual(beads, part_of(sum(at * fraction_of(each) for at, each in enumerate(wanted))))

    def test_what_goes_through_comes_in_hops_and_goes_out_alike(self):
        for many in list(range(1, 13)) + [20, 29, 30]:
            for inn, out in PACES[:6]:
                wanted = through(many, inn, out)
                self.assertEqual((inn or ONE).times(ONE.less(bead_chance(many, 0, inn, out))), wanted)
                self.assertEqual((out or ONE).times(bead_chance(many, many - 1, inn, out)), wanted)
                for wall in range(1, many):
                    self.assertEqual(wall_chance(many, wall, inn, out), wanted)

    def test_a_wall_is_a_bead_less_beads_at_both(self):
        for many in [2, 3, 8, 17, 30]:
            for wall in range(1, many):
                both = both_chance(many, wall - 1, wall, INN, OUT)
                self.assertEqual(wall_chance(many, wall, INN, OUT), bead_chance(many, wall - 1, INN, OUT).less(both))

    def test_numbers_of_beads_of_all_numbers_of_places(self):
        start = time.perf_counter()
        found = {(many, at): number_chances(many, inn, out) for many in range(1, 31)
                 for at, (inn, out) in enumerate(PACES[:5])}
        self.assertLess(time.perf_counter() - start, 60)
        for (many, at), chances in found.items():
            inn, out = PACES[at]
            self.assertEqual(len(chances), many + 1)
            fractions = [fraction_of(each) for each in chances]
            self.assertEqual(sum(fractions), 1)
            self.assertGreater(min(fractions), 0)
            beads = part_of(sum(beads * each for beads, each in enumerate(fractions)))
            self.assertEqual(beads, beads_on(many, inn, out))

    def test_beads_on_is_the_sum_of_all_places(self):
        for many in range(1, 31):
            together = Part(0)
            for place in range(many):
                together = together.plus(bead_chance(many, place, INN, OUT))
            self.assertEqual(beads_on(many, INN, OUT), together)
            self.assertEqual(beads_on(many), Part(many, 2))

    def test_in_the_mirror(self):
        for many in [1, 2, 3, 7, 18, 30]:
            for inn, out in PACES[:5]:
                for place in range(many):
                    other = bead_chance(many, many - 1 - place, out, inn)
                    self.assertEqual(bead_chance(many, place, inn, out), ONE.less(other))
                self.assertEqual(number_chances(many, inn, out), number_chances(many, out, inn)[::-1])
                self.assertEqual(beads_on(many, inn, out), Part(many).less(beads_on(many, out, inn)))

    def test_no_place_hangs_on_another_one(self):
        for many in [1, 2, 3, 6, 15, 30]:
            for inn, out in COME_TO_ONE:
                for place in range(many):
                    self.assertEqual(bead_chance(many, place, inn, out), inn)
                    self.assertEqual(both_chance(many, place, place, inn, out), inn)
                for one, other in [(0, many - 1), (many - 1, 0), (many // 2, 0), (many // 3, many // 2)]:
                    if one != other:
                        self.assertEqual(both_chance(many, one, other, inn, out), inn.times(inn))
                for wall in range(1, many):
                    self.assertEqual(wall_chance(many, wall, inn, out), inn.times(out))
                self.assertEqual(beads_on(many, inn, out), Part(many).times(inn))


def asked_by_paces():
    """What is asked by paces alone, all else handed in."""
    return [lambda *paces, **named: bead_chance(3, 1, *paces, **named),
            lambda *paces, **named: bead_chance(1, 0, *paces, **named),
            lambda *paces, **named: both_chance(4, 0, 2, *paces, **named),
            lambda *paces, **named: both_chance(4, 1, 1, *paces, **named),
            lambda *paces, **named: wall_chance(3, 1, *paces, **named),
            lambda *paces, **named: beads_on(3, *paces, **named),
            lambda *paces, **named: beads_on(30, *paces, **named)]


class TestArguments(unittest.TestCase):

    def test_paces(self):
        for ask in asked_by_paces():
            check_pace_arguments(self, ask)
        for beads in range(4):
            check_pace_arguments(self, lambda *paces, **named: number_chances(3, *paces, **named)[beads])

    def test_unlike_paces_are_told_unlike(self):
        for ask in asked_by_paces():
            found = [ask(), ask(INN), ask(INN, OUT), ask(Part(3), OUT), ask(INN, Part(3))]
            for at, one in enumerate(found):
                self.assertNotIn(one, found[:at])

    def test_names(self):
        self.assertEqual(bead_chance(out=OUT, place=1, inn=INN, many=3), bead_chance(3, 1, INN, OUT))
        self.assertEqual(both_chance(out=OUT, other=2, one=0, inn=INN, many=3), both_chance(3, 0, 2, INN, OUT))
        self.assertEqual(wall_chance(out=OUT, wall=2, inn=INN, many=3), wall_chance(3, 2, INN, OUT))
        self.assertEqual(beads_on(out=OUT, inn=INN, many=3), beads_on(3, INN, OUT))
        self.assertEqual(number_chances(out=OUT, inn=INN, many=3), number_chances(3, INN, OUT))


class TestRefusals(unittest.TestCase):

    def test_no_number_of_places_ahead_of_all_else(self):
        for thing in NO_MANIES + no_whole_numbers():
            with self.subTest(thing=repr(thing)):
                for paces in NO_PACES_AT_ALL:
                    for other in [0, 1, -1, 99, None, "x", True]:
                        for call in [lambda: bead_chance(thing, other, *paces), lambda: wall_chance(thing, other, *paces),
                                     lambda: both_chance(thing, other, other, *paces)]:
                            with self.assertRaises(NoNumber):
                                call()
                    for ask in [beads_on, number_chances]:
                        with self.assertRaises(NoNumber):
                            ask(thing, *paces)

    def test_no_places(self):
        for many in [1, 2, 3, 30]:
            for thing in [-1, -many, many, many + 1, 10 ** 50, -(10 ** 50)] + no_whole_numbers():
                with self.subTest(many=many, thing=repr(thing)):
                    for paces in NO_PACES_AT_ALL:
                        for call in [lambda: bead_chance(many, thing, *paces),
                                     lambda: both_chance(many, thing, 0, *paces),
                                     lambda: both_chance(many, 0, thing, *paces),
                                     lambda: both_chance(many, thing, thing, *paces)]:
                            with self.assertRaises(NoPlace):
                                call()

    def test_the_first_place_is_looked_at_first(self):
        seen = []

        class Watched(int):
            """A place that is none, and tells when it is compared."""

            def __lt__(self, other):
                seen.append(self)
                return int(self) < other

            def __ge__(self, other):
                seen.append(self)
                return int(self) >= other

        one, other = Watched(-1), Watched(-1)
        with self.assertRaises(NoPlace):
            both_chance(3, one, other)
        self.assertTrue(seen)
        self.assertTrue(all(each is one for each in seen))

    def test_no_walls(self):
        for many in [1, 2, 3, 30]:
            for thing in [0, many, -1, -many, many + 1, 10 ** 50, -(10 ** 50)] + no_whole_numbers():
                with self.subTest(many=many, thing=repr(thing)):
                    for paces in NO_PACES_AT_ALL:
                        with self.assertRaises(NoWall) as caught:
                            wall_chance(many, thing, *paces)
                        self.assertIs(caught.exception.wall, thing)
        with self.assertRaises(NoWall):
            wall_chance(1, 1)

    def test_no_paces(self):
        for ask in asked_by_paces() + [lambda *paces, **named: number_chances(3, *paces, **named)]:
            check_no_paces(self, ask)


class TestOwnership(unittest.TestCase):

    def test_told_lists_are_the_askers_own(self):
        for many in [1, 2, 5, 30]:
            one, other = number_chances(many, INN, OUT), number_chances(many, INN, OUT)
            kept = list(one)
            self.assertIsNot(one, other)
            one.append(Part(7))
            one[0] = None
            self.assertEqual(other, kept)
            del other[:]
            self.assertEqual(number_chances(many, INN, OUT), kept)

    def test_paces_are_not_changed(self):
        inn, out = Part(4, 6), Part(10, 14)
        for turn in range(2):
            for ask in asked_by_paces() + [lambda *paces: number_chances(3, *paces)]:
                ask(inn, out)
                with self.assertRaises(NoPace):
                    ask(inn, "x")
                self.assertEqual((inn.top, inn.bottom, out.top, out.bottom), (2, 3, 5, 7))

    def test_asked_twice_alike(self):
        for ask in asked_by_paces():
            self.assertEqual(ask(INN, OUT), ask(INN, OUT))


if __name__ == "__main__":
    unittest.main()
