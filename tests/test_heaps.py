"""hopline.heaps: point 14, and 2 and 12 as far as they speak of heaps."""

import copy
import random
import unittest
from collections import Counter
from fractions import Fraction
from itertools import product

from hopline.errors import NoHeap, NoPace, NoRow
from hopline.heaps import cells_of, heap_weight, is_heap, left_in
from hopline.parts import Part
from hopline.rows import mirrored
from hopline.weights import weight
from hopline.words import ends_of

from tests.heap_models import (FEW_ROWS, LONG, MIDDLING, cells_by_words, chance_heaps, course_heap, heaps_by_courses,
                               is_heap_by_words, left_by_words)
from tests.test_rows import rows_to_try
from tests.things import (EqualToAll, check_no_paces, check_pace_arguments, fraction_of, no_heaps, no_rows, part_of)

INN = Part(2, 3)
OUT = Part(5, 7)
ONE = Part(1)
SIXTY = Part(10 ** 59 + 7, 10 ** 59 + 9)
PACES = [(None, None), (INN, OUT), (INN, None), (None, OUT), (Part(3), Part(1, 4)), (SIXTY, Part(7, 10 ** 59))]


class TestCells(unittest.TestCase):

    def test_named_examples(self):
        for row, wanted in [(".", []), ("o", []), (".o", []), ("o.", [(0, 1)]), ("o..", [(0, 1), (0, 2)]),
                            ("oo.", [(0, 2), (1, 2)]), ("o.o.", [(0, 1), (0, 3), (2, 3)]), (".o.o", [(1, 2)]),
                            ("." * 30, []), ("o" * 30, []), ("." * 15 + "o" * 15, []),
                            ("o" * 15 + "." * 15, [(bead, free) for bead in range(15) for free in range(15, 30)])]:
            self.assertEqual(cells_of(row), wanted)
            self.assertEqual(cells_of(row=row), wanted)

    def test_each_row(self):
        for row in rows_to_try() + LONG:
            found = cells_of(row)
            self.assertIs(type(found), list)
            self.assertEqual(found, cells_by_words(row))
            for cell in found:
                self.assertIs(type(cell), tuple)

    def test_told_lists_are_the_askers_own(self):
        for row in rows_to_try():
            one, other = cells_of(row), cells_of(row)
            kept = list(one)
            self.assertIsNot(one, other)
            one.append((0, 1))
            one.insert(0, None)
            self.assertEqual(other, kept)
            del other[:]
            self.assertEqual(cells_of(row), kept)

    def test_what_is_no_row(self):
        for thing in no_rows():
            with self.subTest(thing=repr(thing)):
                with self.assertRaises(NoRow):
                    cells_of(thing)


def bent_heaps(row, heap):
    """A heap of a row, bent at one place in each way."""
    for at, (bead, free, sign) in enumerate(heap):
        other = "." if sign == "o" else "o"
        for tuples in [[(bead, free, other)], [], [heap[at], heap[at]], [heap[at], (bead, free, other)],
                       [(bead, free, "x")], [(bead, free, "")], [(bead, free, None)], [(bead, free, sign.upper() * 2)],
                       [[bead, free, sign]], [(bead, free)], [(bead, free, sign, sign)], [(sign, bead, free)],
                       [(free, bead, sign)], [(bead + 1, free, sign)], [(bead, free + 1, sign)],
                       [(bead - 1, free, sign)], [(bead, free - 1, sign)], [(-bead - 1, free, sign)],
                       [(bead, -free, sign)], [(str(bead), free, sign)], [(bead, None, sign)], [None], [()],
                       [f"{bead} {free} {sign}"], [(bead, free, EqualToAll())], [(EqualToAll(), free, sign)]]:
            yield heap[:at] + tuples + heap[at + 1:]
        if bead in (0, 1):
            yield heap[:at] + [(bool(bead), free, sign)] + heap[at + 1:]
        if free == 1:
            yield heap[:at] + [(bead, True, sign)] + heap[at + 1:]
        if at:
            yield heap[:at - 1] + [heap[at], heap[at - 1]] + heap[at + 1:]
    filled = [(bead, free) for bead, free, sign in heap]
    for cell in [(bead, free) for bead in range(len(row)) for free in range(len(row)) if (bead, free) not in filled]:
        for sign in "o.":
            yield sorted(heap + [cell + (sign,)])
    if heap:
        yield heap[::-1]
        yield tuple(heap)
        yield dict.fromkeys(heap)
        yield set(heap)
        yield str(heap)


def is_plain(thing):
    """Whether it is a list of tuples of two numbers and a sign, so that is_heap_by_words can tell of it."""
    return isinstance(thing, list) and all(
        type(each) is tuple and len(each) == 3 and type(each[0]) is int and type(each[1]) is int
        and each[2] in ["o", "."] and isinstance(each[2], str) for each in thing)


class TestIsHeap(unittest.TestCase):

    def test_named_examples(self):
        for row, heap in [(".", []), ("o", []), (".o", []), ("o.", [(0, 1, "o")]), ("o.", [(0, 1, ".")]),
                          ("oo.", [(1, 2, "o")]), ("oo.", [(0, 2, "o"), (1, 2, ".")]),
                          ("oo.", [(0, 2, "."), (1, 2, ".")]), ("o..", [(0, 1, ".")]),
                          ("o..", [(0, 1, "o"), (0, 2, "o")]), ("o..", [(0, 1, "o"), (0, 2, ".")]), ("." * 30, [])]:
            self.assertIs(is_heap(row, heap), True)
            self.assertIs(is_heap(thing=heap, row=row), True)
        for row, thing in [("o.", []), ("oo.", [(0, 2, "o")]), ("oo.", [(0, 2, "o"), (1, 2, "o")]),
                           ("oo.", [(1, 2, ".")]), ("o..", [(0, 1, "o")]), ("o..", [(0, 1, "."), (0, 2, "o")]),
                           (".", [(0, 0, "o")]), (".o", [(1, 0, "o")]), (".o", [(0, 1, "o")])]:
            self.assertIs(is_heap(row, thing), False)

    def test_all_fillings_of_rows_of_few_cells(self):
        for row in [row for row in FEW_ROWS if len(cells_of(row)) <= 6]:
            wanted = heaps_by_courses(row)
            found = []
            for signs in product(["", "o", "."], repeat=len(cells_by_words(row))):
                filled = [cell + (sign,) for cell, sign in zip(cells_by_words(row), signs) if sign]
                truth = is_heap(row, filled)
                self.assertIs(truth, is_heap_by_words(row, filled))
                if truth:
                    found.append(filled)
            self.assertEqual(sorted(found), sorted(wanted))

    def test_all_courses_of_rows_of_few_places(self):
        for row in FEW_ROWS:
            for heap in heaps_by_courses(row):
                self.assertIs(is_heap(row, heap), True)

    def test_courses_in_any_order(self):
        for row in FEW_ROWS + MIDDLING + LONG:
            for heap in chance_heaps(row, 4, len(row)):
                self.assertIs(is_heap(row, heap), True)
                self.assertIs(is_heap(row, copy.deepcopy(heap)), True)

    def test_bent_heaps_of_few_places(self):
        for row in [row for row in FEW_ROWS if len(row) <= 5]:
            for heap in heaps_by_courses(row):
                for thing in bent_heaps(row, heap):
                    wanted = is_plain(thing) and is_heap_by_words(row, thing)
                    self.assertIs(is_heap(row, thing), wanted, (row, thing))

    def test_bent_heaps_of_many_places(self):
        for row in ["o" * 15 + "." * 15, LONG[10], "o." * 15]:
            heap = chance_heaps(row, 1, 3)[0]
            for number, thing in enumerate(bent_heaps(row, heap)):
                # By the document's words it takes long: so not of each one.
                wanted = is_plain(thing) and (is_heap_by_words(row, thing) if number % 7 == 0 else None)
                if wanted is not None:
                    self.assertIs(is_heap(row, thing), wanted, (row, thing))

    def test_heaps_of_another_row(self):
        for row in FEW_ROWS:
            for other in FEW_ROWS:
                if len(other) == len(row):
                    heap = chance_heaps(other, 1, 1)[0]
                    self.assertIs(is_heap(row, heap), is_heap_by_words(row, heap))
        self.assertIs(is_heap("oo.", [(0, 1, "o")]), False)
        self.assertIs(is_heap("o..", [(1, 2, "o")]), False)

    def test_things_of_other_kinds(self):
        for thing in no_heaps() + [None]:
            for row in [".", "o", "o.", "oo..", "o." * 15]:
                with self.subTest(row=row, thing=repr(thing)):
                    self.assertIs(is_heap(row, thing), False)

    def test_what_is_handed_in_stays_as_it_is(self):
        for row in ["o.", "oo..", "o.o.o.", LONG[2]]:
            for heap in chance_heaps(row, 2, 5) + [[(0, 1, "o"), [0, 2, "."]], [[0, 1], ["o"]], [(1, 0, "o"), (0, 1, "o")]]:
                kept = copy.deepcopy(heap)
                is_heap(row, heap)
                self.assertEqual(heap, kept)
        inner = []
        inner.append(inner)
        self.assertIs(is_heap("o.", inner), False)
        self.assertEqual(len(inner), 1)

    def test_asked_twice_alike(self):
        heap = [(0, 1, "o")]
        self.assertIs(is_heap("o.", heap), True)
        heap.append((0, 2, "."))
        self.assertIs(is_heap("o.", heap), False)
        self.assertIs(is_heap("o..", heap), True)
        heap.pop()
        self.assertIs(is_heap("o.", heap), True)

    def test_what_is_no_row(self):
        for thing in no_rows():
            for heap in [[], None, [(0, 1, "o")], "x"]:
                with self.subTest(thing=repr(thing), heap=repr(heap)):
                    with self.assertRaises(NoRow):
                        is_heap(thing, heap)


class TestLeftIn(unittest.TestCase):

    def test_named_examples(self):
        for row, heap, wanted in [(".", [], ([0], [])), ("o", [], ([], [0])), (".o", [], ([0], [1])),
                                  ("o.", [(0, 1, "o")], ([], [0])), ("o.", [(0, 1, ".")], ([1], [])),
                                  ("oo.", [(0, 2, "o"), (1, 2, ".")], ([], [0])),
                                  ("oo.", [(0, 2, "."), (1, 2, ".")], ([2], [])),
                                  ("o..", [(0, 1, "o"), (0, 2, ".")], ([2], [])),
                                  (".o.o", [(1, 2, "o")], ([0], [1, 3])),
                                  ("." * 30, [], (list(range(30)), [])), ("o" * 30, [], ([], list(range(30))))]:
            self.assertEqual(left_in(row, heap), wanted)
            self.assertEqual(left_in(heap=heap, row=row), wanted)

    def test_each_heap(self):
        for row in FEW_ROWS:
            for heap in heaps_by_courses(row):
                found = left_in(row, heap)
                self.assertEqual(found, left_by_words(row, heap))
                self.assertIs(type(found), tuple)
                self.assertEqual([type(places) for places in found], [list, list])

    def test_what_courses_leave(self):
        chooser = random.Random(23)
        for row in MIDDLING + LONG:
            for turn in range(3):
                heap, frees, beads = course_heap(row, chooser)
                self.assertEqual(left_in(row, heap), (frees, beads))

    def test_told_lists_are_the_askers_own(self):
        for row in ["o.o.", ".o.o", "oo..", LONG[10]]:
            for heap in chance_heaps(row, 2, 9):
                kept = copy.deepcopy(heap)
                one, other = left_in(row, heap), left_in(row, heap)
                wanted = (list(other[0]), list(other[1]))
                one[0].append(99)
                one[1].insert(0, 99)
                self.assertEqual(other, wanted)
                del other[0][:]
                del other[1][:]
                self.assertEqual(left_in(row, heap), wanted)
                self.assertEqual(heap, kept)

    def test_refusals(self):
        for thing in no_heaps() + [None]:
            for row in [".", "o.", "oo.."]:
                with self.subTest(row=row, thing=repr(thing)):
                    with self.assertRaises(NoHeap):
                        left_in(row, thing)
        for thing in no_rows():
            for heap in [[], None, [(0, 1, "o")]]:
                with self.subTest(thing=repr(thing)):
                    with self.assertRaises(NoRow):
                        left_in(thing, heap)
        with self.assertRaises(NoHeap):
            left_in("o.", [])


class TestHeapWeight(unittest.TestCase):

    def test_by_hand(self):
        self.assertEqual(heap_weight(".", [], INN, OUT), Part(3, 2))
        self.assertEqual(heap_weight("o", [], INN, OUT), Part(7, 5))
        self.assertEqual(heap_weight("o.", [(0, 1, "o")], INN, OUT), Part(7, 5))
        self.assertEqual(heap_weight("o.", [(0, 1, ".")], INN, OUT), Part(3, 2))
        self.assertEqual(heap_weight(".o", [], INN, OUT), Part(21, 10))
        self.assertEqual(heap_weight(".o.o", [(1, 2, "o")], INN, OUT), Part(3 * 49, 2 * 25))
        self.assertEqual(heap_weight("." * 30, [], SIXTY), ONE.over(SIXTY.raised(30)))
        self.assertEqual(heap_weight("o" * 30, [], None, SIXTY), ONE.over(SIXTY.raised(30)))

    def test_each_heap(self):
        for row in FEW_ROWS + MIDDLING + LONG:
            for heap in chance_heaps(row, 3, 31):
                frees, beads = left_by_words(row, heap)
                for inn, out in PACES:
                    wanted = Fraction(1) / fraction_of(inn) ** len(frees) / fraction_of(out) ** len(beads)
                    found = heap_weight(row, heap, inn, out)
                    self.assertIsInstance(found, Part)
                    self.assertEqual(found, part_of(wanted))

    def test_weights_of_all_heaps_come_to_the_rows_weight(self):
        for row in FEW_ROWS:
            heaps = heaps_by_courses(row)
            for inn, out in PACES:
                together = Part(0)
                for heap in heaps:
                    together = together.plus(heap_weight(row, heap, inn, out))
                self.assertEqual(together, weight(row, inn, out))

    def test_so_many_have_so_many_left_as_the_ends_tell(self):
        for row in FEW_ROWS + ["oo.o.o..", "ooo...o.", "o.o.o.o."]:
            left = Counter()
            for heap in heaps_by_courses(row):
                frees, beads = left_in(row, heap)
                left[len(frees), len(beads)] += 1
            self.assertEqual(sorted(many + (often,) for many, often in left.items()), ends_of(row))

    def test_in_the_mirror(self):
        for row in FEW_ROWS + LONG:
            for heap in chance_heaps(row, 2, 37):
                last = len(row) - 1
                turned = sorted((last - free, last - bead, "." if sign == "o" else "o") for bead, free, sign in heap)
                self.assertIs(is_heap(mirrored(row), turned), True)
                self.assertEqual(heap_weight(mirrored(row), turned, OUT, INN), heap_weight(row, heap, INN, OUT))

    def test_paces_by_place_by_name_none_and_left_out(self):
        for row, heap in [(".o", []), ("o.o.", [(0, 1, "o"), (0, 3, "."), (2, 3, ".")]), ("." * 30, [])]:
            check_pace_arguments(self, lambda *paces, **named: heap_weight(row, heap, *paces, **named))
            self.assertEqual(heap_weight(out=OUT, heap=heap, inn=INN, row=row), heap_weight(row, heap, INN, OUT))
        found = [heap_weight(".o", []), heap_weight(".o", [], INN), heap_weight(".o", [], None, OUT),
                 heap_weight(".oo", [], INN, OUT), heap_weight(".oo", [], OUT, INN)]
        for at, one in enumerate(found):
            self.assertNotIn(one, found[:at])

    def test_refusals_in_their_order(self):
        for row, heap in [(".", []), ("o.", [(0, 1, "o")]), ("o" * 30, [])]:
            check_no_paces(self, lambda *paces, **named: heap_weight(row, heap, *paces, **named))
        for thing in no_heaps() + [None]:
            for row in [".", "o.", "oo.."]:
                for paces in [(), (INN, OUT), ("x", Part(0)), (None, 1)]:
                    with self.subTest(row=row, thing=repr(thing)):
                        with self.assertRaises(NoHeap):
                            heap_weight(row, thing, *paces)
        for thing in no_rows():
            for heap in [[], None, "x", [(0, 1, "o")]]:
                for paces in [(), ("x", Part(0))]:
                    with self.subTest(thing=repr(thing)):
                        with self.assertRaises(NoRow):
                            heap_weight(thing, heap, *paces)

    def test_what_is_handed_in_stays_as_it_is(self):
        heap, inn, out = [(0, 1, "o"), (0, 3, "."), (2, 3, ".")], Part(4, 6), Part(10, 14)
        kept = list(heap)
        for turn in range(2):
            heap_weight("o.o.", heap, inn, out)
            with self.assertRaises(NoPace):
                heap_weight("o.o.", heap, inn, "x")
            with self.assertRaises(NoHeap):
                heap_weight("o..o", heap, inn, out)
            self.assertEqual(heap, kept)
            self.assertEqual((inn.top, inn.bottom, out.top, out.bottom), (2, 3, 5, 7))


if __name__ == "__main__":
    unittest.main()
