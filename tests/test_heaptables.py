"""hopline.heaptables: point 27, and 2 as far as it speaks of tables of heaps."""

import copy
import unittest
from fractions import Fraction

from hopline.errors import NoNumber, NoPace
from hopline.heaps import heap_weight
from hopline.heaptables import heap_table, is_heap_still
from hopline.parts import Part
from hopline.tables import table
from hopline.ways import ways_many

from tests.heap_models import heaps_by_courses, pair_changed_by_words
from tests.test_rows import open_by_words, rows_of
from tests.test_weights import pace_by_words
from tests.things import Alike, EqualToAll, Odd, check_no_paces, fraction_of, no_heaps, no_texts, no_whole_numbers

INN = Part(2, 3)
OUT = Part(5, 7)
ONE = Part(1)
SIXTY = Part(10 ** 59 + 7, 10 ** 59 + 9)
PACES = [(None, None), (INN, OUT), (INN, None), (None, OUT), (Part(3), Part(1, 4)), (Part(1, 3), Part(2, 3)),
         (SIXTY, Part(7, 10 ** 59))]
FACTORS = [ONE, Part(2), Part(1, 2), Part(3, 7), Part(10 ** 50), Part(1, 10 ** 50), Part(10 ** 59 + 1, 10 ** 58 + 9)]
NO_MANIES = [0, -1, -5, 6, 7, 8, 30, 10 ** 50, -(10 ** 50)]


def frozen(row, heap):
    return row, tuple(heap)


def greater_changes(many):
    """All changes of the greater walk: the pair, the wall, and the pair behind it."""
    return [(frozen(row, heap), wall, frozen(*pair_changed_by_words(row, heap, wall)[:2])) for row in rows_of(many)
            for heap in heaps_by_courses(row) for wall in range(many + 1) if open_by_words(row, wall)]


def is_still_by_words(many, told, inn, out):
    """Whether at each heap as much comes as goes, by all changes of the greater walk."""
    weights = {frozen(row, heap): fraction_of(worth) for row, heap, worth in told}
    more = {pair: Fraction(0) for pair in weights}
    for pair, wall, behind in greater_changes(many):
        moves = weights[pair] * pace_by_words(many, wall, inn, out)
        more[pair] -= moves
        more[behind] += moves
    return not any(more.values())


def times(told, factor):
    return [(row, heap, worth.times(factor)) for row, heap, worth in told]


def with_line(told, at, line):
    return told[:at] + [line] + told[at + 1:]


def bent_at(told, at):
    """A table of heaps bent at one heap, in each way that keeps the others."""
    row, heap, worth = told[at]
    for other in [worth.plus(Part(1, 10 ** 40)), worth.plus(ONE), worth.less(worth.over(Part(2))), Part(0), Part(-1),
                  Part(0).less(worth), worth.top, 1, 0, True, None, str(worth), [], [worth], (worth,), Odd(),
                  EqualToAll(), Alike(worth), worth.top * 1.0, Part]:
        yield with_line(told, at, (row, heap, other))
    for line in [[row, heap, worth], (row, worth), (row, heap), (row, heap, worth, worth), (heap, row, worth),
                 (row, worth, heap), (), row, worth, heap, None, {0: row, 1: heap, 2: worth}, ("", heap, worth),
                 (row + ".", heap, worth), (row[1:], heap, worth), (list(row), heap, worth), (row.encode(), heap, worth),
                 (None, heap, worth), (EqualToAll(), heap, worth), EqualToAll(), Odd(), True,
                 (row, tuple(heap), worth), (row, {each: True for each in heap}, worth), (row, str(heap), worth),
                 (row, None, worth), (row, EqualToAll(), worth), (row, heap + [None], worth),
                 (row, heap + [(0, 1, "o")], worth), (row, [heap], worth), (row, at, worth)]:
        yield with_line(told, at, line)
    for filled in bent_fillings(heap):
        yield with_line(told, at, (row, filled, worth))
    for thing in no_heaps():
        if thing != heap:
            yield with_line(told, at, (row, thing, worth))
    yield told[:at] + told[at + 1:]
    yield told[:at] + [told[at]] + told[at:]
    yield with_line(told, at, told[at - 1])
    before = at - 1 if at else 1
    yield with_line(with_line(told, at, told[before]), before, told[at])


def bent_fillings(heap):
    """A heap bent at one of its tuples."""
    for place, (bead, free, sign) in enumerate(heap):
        others = [(bead, free, "." if sign == "o" else "o"), [bead, free, sign], (bead, free), (bead, free, None),
                  (bead, free, sign, sign), (bead + 1, free, sign), (bead, free + 1, sign), (bead * 1.0, free, sign),
                  (bead, free * 1.0, sign), (str(bead), free, sign), (EqualToAll(), free, sign),
                  (bead, free, EqualToAll())]
        others += [(bool(bead), free, sign)] if bead in (0, 1) else []
        others += [(bead, True, sign)] if free == 1 else []
        for other in others:
            yield heap[:place] + [other] + heap[place + 1:]
        yield heap[:place] + heap[place + 1:]
        yield heap[:place] + [heap[place]] + heap[place:]
    if len(heap) > 1:
        yield heap[::-1]


def other_kinds(told):
    yield from [tuple(told), set(), str(told), [], [[]], [()], [None], told[:1], told[:-1], told[1:], told + told,
                told + [told[-1]], told + [None], [told], iter(told), [list(line) for line in told],
                [(row, worth) for row, heap, worth in told], [(row, tuple(heap), worth) for row, heap, worth in told],
                told[::-1], Odd(), EqualToAll(), [EqualToAll()] * len(told), dict(enumerate(told)), Alike(ONE), ONE]
    yield from [thing for thing in no_whole_numbers() + no_texts()] + [0, 1, 2, "", "o", "o."]


class TestHeapTable(unittest.TestCase):

    def test_by_hand(self):
        self.assertEqual(heap_table(1, INN, OUT), [(".", [], Part(3, 2)), ("o", [], Part(7, 5))])
        self.assertEqual(heap_table(2, INN, OUT), [
            ("..", [], Part(9, 4)), (".o", [], Part(21, 10)), ("o.", [(0, 1, "o")], Part(7, 5)),
            ("o.", [(0, 1, ".")], Part(3, 2)), ("oo", [], Part(49, 25))])

    def test_all_rows_and_heaps_by_their_numbers(self):
        for many in range(1, 6):
            for inn, out in PACES:
                found = heap_table(many, inn, out)
                self.assertIs(type(found), list)
                self.assertEqual(len(found), ways_many(many + 1))
                self.assertEqual(found, [(row, heap, heap_weight(row, heap, inn, out)) for row in rows_of(many)
                                         for heap in heaps_by_courses(row)])
                for line in found:
                    self.assertEqual([type(line), type(line[0]), type(line[1])], [tuple, str, list])
                    self.assertIsInstance(line[2], Part)

    def test_for_each_row_they_come_to_its_weight(self):
        for many in range(1, 6):
            for inn, out in PACES:
                found = heap_table(many, inn, out)
                for row, wanted in table(many, inn, out):
                    together = Part(0)
                    for other, heap, worth in found:
                        if other == row:
                            together = together.plus(worth)
                    self.assertEqual(together, wanted)

    def test_told_lists_are_the_askers_own(self):
        for many in [1, 2, 3, 5]:
            one, other = heap_table(many, INN, OUT), heap_table(many, INN, OUT)
            kept = copy.deepcopy(one)
            self.assertIsNot(one, other)
            heaps = [heap for row, heap, worth in one + other]
            self.assertEqual(len({id(heap) for heap in heaps}), len(heaps))
            for row, heap, worth in one:
                heap.append((0, 1, "o"))
            one.append(None)
            self.assertEqual(other, kept)
            for row, heap, worth in other:
                del heap[:]
            del other[1:]
            self.assertEqual(heap_table(many, INN, OUT), kept)
            self.assertIs(is_heap_still(many, kept, INN, OUT), True)
            self.assertIs(is_heap_still(many, one, INN, OUT), False)
            self.assertIs(is_heap_still(many, other, INN, OUT), False)

    def test_paces(self):
        for found, wanted in [
                (heap_table(3), heap_table(3, ONE, ONE)), (heap_table(3, None, None), heap_table(3, ONE, ONE)),
                (heap_table(3, INN), heap_table(3, INN, ONE)), (heap_table(3, inn=INN), heap_table(3, INN, ONE)),
                (heap_table(3, None, OUT), heap_table(3, ONE, OUT)), (heap_table(3, out=OUT), heap_table(3, ONE, OUT)),
                (heap_table(out=OUT, inn=INN, many=3), heap_table(3, INN, OUT))]:
            self.assertEqual(found, wanted)
        found = [heap_table(3), heap_table(3, INN), heap_table(3, None, INN), heap_table(3, INN, OUT),
                 heap_table(3, OUT, INN)]
        for at, each in enumerate(found):
            self.assertNotIn(each, found[:at])


class TestStill(unittest.TestCase):

    def test_the_told_one_times_a_part(self):
        for many in range(1, 6):
            for inn, out in PACES:
                for factor in FACTORS:
                    thing = times(heap_table(many, inn, out), factor)
                    self.assertIs(is_heap_still(many, thing, inn, out), True)

    def test_all_weights_nought_or_below(self):
        for many in range(1, 6):
            for inn, out in PACES[:3]:
                for factor in [Part(0), Part(-1), Part(-2, 3), Part(-1, 10 ** 50)]:
                    thing = times(heap_table(many, inn, out), factor)
                    self.assertIs(is_heap_still(many, thing, inn, out), False)

    def test_as_much_comes_as_goes(self):
        for many in range(1, 6):
            for inn, out in PACES:
                self.assertTrue(is_still_by_words(many, heap_table(many, inn, out), inn, out))

    def test_no_others_are_still(self):
        # From each heap the walk leads to each other one; so the weights are settled but for one Part.
        for many in range(1, 6):
            leads = {}
            for pair, wall, behind in greater_changes(many):
                leads.setdefault(pair, set()).add(behind)
            for start in leads:
                seen, now = {start}, [start]
                while now:
                    now = [behind for behind in {each for pair in now for each in leads[pair]} if behind not in seen]
                    seen.update(now)
                self.assertEqual(seen, set(leads))

    def test_sums_of_still_ones(self):
        for many in range(1, 6):
            told = heap_table(many, INN, OUT)
            both = [(row, heap, worth.times(Part(2, 5)).plus(worth.times(Part(7)))) for row, heap, worth in told]
            self.assertIs(is_heap_still(many, both, INN, OUT), True)

    def test_all_weights_alike_for_paces_of_one(self):
        for many in range(1, 6):
            thing = [(row, heap, Part(5, 9)) for row in rows_of(many) for heap in heaps_by_courses(row)]
            self.assertIs(is_heap_still(many, thing), True)
            self.assertIs(is_heap_still(many, thing, INN), False)

    def test_bent_tables(self):
        for many in [1, 2, 3]:
            for inn, out in PACES[:2]:
                told = times(heap_table(many, inn, out), Part(3, 4))
                for at in range(len(told)):
                    for thing in bent_at(told, at):
                        with self.subTest(many=many, at=at, thing=repr(thing)):
                            self.assertIs(is_heap_still(many, thing, inn, out), False)
        told = heap_table(5, INN, OUT)
        for at in [0, 17, 60, 131]:
            for thing in bent_at(told, at):
                self.assertIs(is_heap_still(5, thing, INN, OUT), False)

    def test_two_weights_exchanged(self):
        for many in [1, 2, 3]:
            told = heap_table(many, INN, OUT)
            for at in range(len(told)):
                for other in range(at):
                    thing = with_line(told, at, told[at][:2] + told[other][2:])
                    thing = with_line(thing, other, told[other][:2] + told[at][2:])
                    self.assertIs(is_heap_still(many, thing, INN, OUT), told[at][2] == told[other][2])

    def test_true_and_false_in_the_stead_of_places(self):
        told = heap_table(2)
        self.assertEqual(told[2], ("o.", [(0, 1, "o")], ONE))
        for bead, free in [(False, 1), (0, True), (False, True), (0, 1)]:
            thing = with_line(told, 2, ("o.", [(bead, free, "o")], ONE))
            self.assertEqual(thing, told)
            self.assertIs(is_heap_still(2, thing), (bead, free) == (0, 1) and bead is not False and free is not True)

    def test_things_of_other_kinds(self):
        for many in [1, 2, 3, 5]:
            for thing in other_kinds(heap_table(many, INN, OUT)):
                with self.subTest(many=many, thing=repr(thing)):
                    self.assertIs(is_heap_still(many, thing, INN, OUT), False)

    def test_a_list_that_holds_itself(self):
        thing = []
        thing.append(thing)
        thing.append((".", thing, ONE))
        self.assertIs(is_heap_still(1, thing), False)
        self.assertEqual(len(thing), 2)

    def test_tables_of_other_lengths_and_paces(self):
        for many in range(1, 6):
            for other in range(1, 6):
                if other != many:
                    self.assertIs(is_heap_still(many, heap_table(other, INN, OUT), INN, OUT), False)
            for inn, out in [(None, None), (OUT, INN), (INN, None), (None, OUT), (Part(3), OUT)]:
                self.assertIs(is_heap_still(many, heap_table(many, inn, out), INN, OUT), False)

    def test_told_by_names(self):
        self.assertIs(is_heap_still(out=OUT, thing=heap_table(3, INN, OUT), inn=INN, many=3), True)
        self.assertIs(is_heap_still(3, heap_table(3, None, OUT), out=OUT), True)
        self.assertIs(is_heap_still(3, heap_table(3, INN), INN), True)
        self.assertIs(is_heap_still(3, heap_table(3), None, ONE), True)

    def test_what_is_handed_in_stays_as_it_is(self):
        for thing in [heap_table(2, INN, OUT), heap_table(2), heap_table(2)[::-1], [["o.", [[0, 1, "o"]], ONE]]]:
            kept = copy.deepcopy(thing)
            is_heap_still(2, thing, INN, OUT)
            self.assertEqual(thing, kept)

    def test_asked_twice_alike(self):
        told = heap_table(2, INN, OUT)
        self.assertIs(is_heap_still(2, told, INN, OUT), True)
        told[2][1].append((0, 2, "."))
        self.assertIs(is_heap_still(2, told, INN, OUT), False)
        told[2][1].pop()
        self.assertIs(is_heap_still(2, told, INN, OUT), True)


class TestRefusals(unittest.TestCase):

    def test_no_number_of_places(self):
        for thing in NO_MANIES + no_whole_numbers():
            with self.subTest(thing=repr(thing)):
                for paces in [(), (INN, OUT), ("x", Part(0)), (None, 1)]:
                    for call in [lambda: heap_table(thing, *paces), lambda: is_heap_still(thing, None, *paces),
                                 lambda: is_heap_still(thing, heap_table(1), *paces)]:
                        with self.assertRaises(NoNumber):
                            call()

    def test_no_paces_whatever_stands_as_the_table(self):
        for many in [1, 2, 5]:
            check_no_paces(self, lambda *paces, **named: heap_table(many, *paces, **named))
        for thing in [heap_table(2), [], None, "x", EqualToAll(), heap_table(3)]:
            check_no_paces(self, lambda *paces, **named: is_heap_still(2, thing, *paces, **named))

    def test_paces_are_not_changed(self):
        inn, out = Part(4, 6), Part(10, 14)
        told = heap_table(2, inn, out)
        for turn in range(2):
            for ask in [lambda *paces: heap_table(2, *paces), lambda *paces: is_heap_still(2, told, *paces)]:
                ask(inn, out)
                with self.assertRaises(NoPace):
                    ask(inn, "x")
                self.assertEqual((inn.top, inn.bottom, out.top, out.bottom), (2, 3, 5, 7))


if __name__ == "__main__":
    unittest.main()
