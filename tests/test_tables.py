"""hopline.tables: point 26, and 2 as far as it speaks of tables."""

import copy
import random
import unittest
from collections import namedtuple
from fractions import Fraction

from hopline.errors import NoNumber, NoPace
from hopline.parts import Part
from hopline.tables import is_still, table, times_told
from hopline.weights import weight

from tests.test_rows import rows_of
from tests.test_weights import all_changes, pace_by_words, weights_by_words
from tests.things import Alike, EqualToAll, Odd, check_no_paces, fraction_of, no_texts, no_whole_numbers, part_of

INN = Part(2, 3)
OUT = Part(5, 7)
ONE = Part(1)
SIXTY = Part(10 ** 59 + 7, 10 ** 59 + 9)
PACES = [(None, None), (INN, OUT), (INN, None), (None, OUT), (Part(3), Part(1, 4)), (Part(1, 3), Part(2, 3)),
         (SIXTY, Part(7, 10 ** 59))]
FACTORS = [ONE, Part(2), Part(1, 2), Part(3, 7), Part(10 ** 50), Part(1, 10 ** 50), Part(10 ** 59 + 1, 10 ** 58 + 9)]
NO_MANIES = [0, -1, -8, 9, 10, 30, 10 ** 50, -(10 ** 50)]


def is_still_by_words(many, told, inn, out):
    """Whether at each row as much comes as goes, by all changes of all rows."""
    weights = {row: fraction_of(worth) for row, worth in told}
    more = {row: Fraction(0) for row in weights}
    for row, wall, behind in all_changes(many):
        moves = weights[row] * pace_by_words(many, wall, inn, out)
        more[row] -= moves
        more[behind] += moves
    return not any(more.values())


def times(told, factor):
    return [(row, worth.times(factor)) for row, worth in told]


def with_weight(told, at, worth):
    return told[:at] + [(told[at][0], worth)] + told[at + 1:]


def bent_at(told, at):
    """A table bent at one row, in each way that keeps the others."""
    row, worth = told[at]
    for other in [worth.plus(Part(1, 10 ** 40)), worth.plus(ONE), worth.less(worth.over(Part(2))), worth.less(worth),
                  Part(0), Part(-1), Part(0).less(worth), worth.top, 1, 0, True, None, str(worth), "", [], [worth],
                  (worth,), (worth.top, worth.bottom), Odd(), EqualToAll(), Alike(worth), worth.top * 1.0, Part]:
        yield with_weight(told, at, other)
    for line in [[row, worth], (row,), (worth, row), (row, worth, worth), (row, worth, None), (), (row, (worth,)), row,
                 worth, None, {row: worth}, {0: row, 1: worth}, ("", worth), (row + ".", worth), (row[1:], worth),
                 (row[::-1] + "o", worth), (row.upper() + "x", worth), (list(row), worth), (row.encode(), worth),
                 (at, worth), (None, worth), (EqualToAll(), worth), (Odd(), worth), EqualToAll(), Odd(), True]:
        yield told[:at] + [line] + told[at + 1:]
    yield told[:at] + told[at + 1:]
    yield told[:at] + [told[at]] + told[at:]
    yield told[:at] + [told[at - 1]] + told[at + 1:]
    before = at - 1 if at else 1
    swapped = list(told)
    swapped[at], swapped[before] = swapped[before], swapped[at]
    yield swapped


def other_kinds(told):
    """Things of other kinds than a list, and lists of other lengths."""
    yield from [tuple(told), dict(told), set(), {row for row, worth in told}, str(told), [], [[]], [()], [None], told[:1],
                told[:-1], told[1:], told + told, told + [told[-1]], told + [None], [told], iter(told), reversed(told),
                [list(line) for line in told], [row for row, worth in told], [worth for row, worth in told],
                told[::-1], Odd(), EqualToAll(), [EqualToAll()] * len(told), range(len(told)), Alike(ONE), ONE]
    yield from [thing for thing in no_whole_numbers() + no_texts()] + [0, 1, 2, "", "o", "o."]


class TestTable(unittest.TestCase):

    def test_by_hand(self):
        self.assertEqual(table(1, INN, OUT), [(".", Part(3, 2)), ("o", Part(7, 5))])
        self.assertEqual(table(2), [("..", ONE), (".o", ONE), ("o.", Part(2)), ("oo", ONE)])
        self.assertEqual(table(2, INN, OUT),
                         [("..", Part(9, 4)), (".o", Part(21, 10)), ("o.", Part(29, 10)), ("oo", Part(49, 25))])

    def test_all_rows_by_their_numbers(self):
        for many in range(1, 9):
            for inn, out in PACES:
                found = table(many, inn, out)
                self.assertIs(type(found), list)
                self.assertEqual([row for row, worth in found], rows_of(many))
                self.assertEqual(found, [(row, weight(row, inn, out)) for row in rows_of(many)])
                for line in found:
                    self.assertIs(type(line), tuple)
                    self.assertIsInstance(line[1], Part)
        for many in range(1, 6):
            for inn, out in PACES:
                weights = weights_by_words(many, inn, out)
                self.assertEqual(table(many, inn, out), [(row, part_of(weights[row])) for row in rows_of(many)])

    def test_told_lists_are_the_askers_own(self):
        for many in [1, 2, 8]:
            one, other = table(many, INN, OUT), table(many, INN, OUT)
            kept = list(one)
            self.assertIsNot(one, other)
            one.append(None)
            one[0] = (".", Part(7))
            self.assertEqual(other, kept)
            del other[:]
            self.assertEqual(table(many, INN, OUT), kept)
            self.assertIs(is_still(many, kept, INN, OUT), True)
            self.assertIs(is_still(many, one, INN, OUT), False)
            self.assertIs(is_still(many, other, INN, OUT), False)

    def test_paces(self):
        one = Part(1)
        for found, wanted in [
                (table(3), table(3, one, one)), (table(3, None, None), table(3, one, one)),
                (table(3, INN), table(3, INN, one)), (table(3, inn=INN), table(3, INN, one)),
                (table(3, None, OUT), table(3, one, OUT)), (table(3, out=OUT), table(3, one, OUT)),
                (table(out=OUT, inn=INN, many=3), table(3, INN, OUT))]:
            self.assertEqual(found, wanted)
        found = [table(3), table(3, INN), table(3, None, INN), table(3, INN, OUT), table(3, OUT, INN)]
        for at, each in enumerate(found):
            self.assertNotIn(each, found[:at])


class TestStill(unittest.TestCase):

    def check(self, many, thing, inn, out, wanted):
        """Check that times_told tells this Part or None, and is_still alike."""
        found = times_told(many, thing, inn, out)
        if wanted is None:
            self.assertIsNone(found)
        else:
            self.assertIsInstance(found, Part)
            self.assertEqual(found, wanted)
        self.assertIs(is_still(many, thing, inn, out), wanted is not None)

    def test_the_told_one_times_a_part(self):
        for many in range(1, 9):
            for inn, out in PACES:
                told = table(many, inn, out)
                for factor in FACTORS:
                    self.check(many, times(told, factor), inn, out, factor)

    def test_all_weights_nought_or_below(self):
        for many in range(1, 9):
            for inn, out in PACES[:3]:
                for factor in [Part(0), Part(-1), Part(-2, 3), Part(-1, 10 ** 50)]:
                    self.check(many, times(table(many, inn, out), factor), inn, out, None)

    def test_as_much_comes_as_goes(self):
        for many in range(1, 7):
            for inn, out in PACES:
                self.assertTrue(is_still_by_words(many, table(many, inn, out), inn, out))

    def test_sums_of_still_ones(self):
        for many in range(1, 9):
            told = table(many, INN, OUT)
            for one, other in [(ONE, Part(2, 5)), (Part(7), Part(1, 10 ** 30)), (Part(3, 11), Part(3, 11))]:
                both = [(row, worth.plus(more)) for (row, worth), (same, more)
                        in zip(times(told, one), times(told, other))]
                self.check(many, both, INN, OUT, one.plus(other))

    def test_any_weights_as_the_words_tell(self):
        chooser = random.Random(47)
        for many in [1, 2, 3]:
            for turn in range(60):
                thing = [(row, Part(chooser.randint(1, 2))) for row in rows_of(many)]
                self.assertIs(is_still(many, thing), is_still_by_words(many, thing, None, None))
        self.assertIs(is_still(2, [("..", ONE), (".o", ONE), ("o.", Part(2)), ("oo", ONE)]), True)
        self.assertIs(is_still(1, [(".", Part(5)), ("o", Part(5))]), True)
        self.assertEqual(times_told(1, [(".", Part(5)), ("o", Part(5))]), Part(5))

    def test_bent_tables(self):
        for many in [1, 2, 3]:
            for inn, out in PACES[:3]:
                told = times(table(many, inn, out), Part(3, 4))
                for at in range(len(told)):
                    for thing in bent_at(told, at):
                        with self.subTest(many=many, at=at, thing=repr(thing)):
                            self.check(many, thing, inn, out, None)
        for many in [5, 8]:
            told = table(many, INN, OUT)
            for at in [0, 1, len(told) // 2, len(told) - 1]:
                for thing in bent_at(told, at):
                    self.check(many, thing, INN, OUT, None)

    def test_two_weights_exchanged(self):
        for many in [1, 2, 3, 4]:
            told = table(many, INN, OUT)
            for at in range(len(told)):
                for other in range(at):
                    thing = with_weight(with_weight(told, at, told[other][1]), other, told[at][1])
                    wanted = ONE if told[at][1] == told[other][1] else None
                    self.check(many, thing, INN, OUT, wanted)

    def test_one_weight_less(self):
        for many in [1, 2, 5]:
            told = table(many, INN, OUT)
            for at in range(len(told)):
                self.check(many, with_weight(told, at, told[at][1].less(Part(1, 10 ** 9))), INN, OUT, None)

    def test_things_of_other_kinds(self):
        for many in [1, 2, 3, 8]:
            for thing in other_kinds(table(many, INN, OUT)):
                with self.subTest(many=many, thing=repr(thing)):
                    self.check(many, thing, INN, OUT, None)

    def test_a_list_that_holds_itself(self):
        thing = []
        thing.append(thing)
        thing.append((thing, thing))
        self.check(1, thing, None, None, None)
        self.assertEqual(len(thing), 2)

    def test_tables_of_other_lengths_and_paces(self):
        for many in range(1, 9):
            for other in range(1, 9):
                if other != many:
                    self.check(many, table(other, INN, OUT), INN, OUT, None)
            for inn, out in [(None, None), (OUT, INN), (INN, None), (None, OUT), (Part(3), OUT)]:
                self.check(many, table(many, inn, out), INN, OUT, None)

    def test_told_by_names(self):
        told = times(table(3, INN, OUT), Part(5))
        self.assertIs(is_still(out=OUT, thing=told, inn=INN, many=3), True)
        self.assertEqual(times_told(out=OUT, thing=told, inn=INN, many=3), Part(5))
        for paces, named in [((), {}), ((None,), {}), ((None, None), {}), ((), {"inn": None, "out": ONE})]:
            self.assertIs(is_still(3, table(3), *paces, **named), True)
            self.assertEqual(times_told(3, table(3), *paces, **named), ONE)
        self.assertIs(is_still(3, table(3, None, OUT), out=OUT), True)
        self.assertEqual(times_told(3, table(3, INN), inn=INN), ONE)

    def test_what_is_handed_in_stays_as_it_is(self):
        Line = namedtuple("Line", "row worth")
        for thing in [table(2, INN, OUT), times(table(2, INN, OUT), Part(3)), [["..", ONE]], [("..", [1])],
                      [Line(".", Part(3, 2)), Line("o", Part(7, 5))], table(2, INN, OUT)[::-1]]:
            kept = copy.deepcopy(thing)
            for ask in [is_still, times_told]:
                ask(2, thing, INN, OUT)
                self.assertEqual(thing, kept)

    def test_asked_twice_alike(self):
        told = table(2, INN, OUT)
        self.assertIs(is_still(2, told, INN, OUT), True)
        kept = told.pop()
        self.assertIs(is_still(2, told, INN, OUT), False)
        told.append(kept)
        self.assertIs(is_still(2, told, INN, OUT), True)
        self.assertEqual(times_told(2, told, INN, OUT), times_told(2, told, INN, OUT))


class TestRefusals(unittest.TestCase):

    def test_no_number_of_places(self):
        for thing in NO_MANIES + no_whole_numbers():
            with self.subTest(thing=repr(thing)):
                for paces in [(), (INN, OUT), ("x", Part(0)), (None, 1)]:
                    for call in [lambda: table(thing, *paces), lambda: is_still(thing, table(1), *paces),
                                 lambda: is_still(thing, None, *paces), lambda: times_told(thing, table(1), *paces),
                                 lambda: times_told(thing, [], *paces)]:
                        with self.assertRaises(NoNumber):
                            call()

    def test_no_paces_whatever_stands_as_the_table(self):
        for many in [1, 2, 8]:
            check_no_paces(self, lambda *paces, **named: table(many, *paces, **named))
        for thing in [table(2), [], None, "x", EqualToAll(), table(3)]:
            check_no_paces(self, lambda *paces, **named: is_still(2, thing, *paces, **named))
            check_no_paces(self, lambda *paces, **named: times_told(2, thing, *paces, **named))

    def test_paces_are_not_changed(self):
        inn, out = Part(4, 6), Part(10, 14)
        told = table(2, inn, out)
        for turn in range(2):
            for ask in [lambda *paces: table(2, *paces), lambda *paces: is_still(2, told, *paces),
                        lambda *paces: times_told(2, told, *paces)]:
                ask(inn, out)
                with self.assertRaises(NoPace):
                    ask(inn, "x")
                self.assertEqual((inn.top, inn.bottom, out.top, out.bottom), (2, 3, 5, 7))


if __name__ == "__main__":
    unittest.main()
