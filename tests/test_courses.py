"""hopline.courses: point 15, and 2 as far as it speaks of courses."""

import copy
import random
import time
import unittest
from math import comb

from hopline.courses import heap_at, heap_number, heaps_many, heaps_of
from hopline.errors import NoHeap, NoNumber, NoRow, TooMany
from hopline.heaps import is_heap
from hopline.parts import Part
from hopline.weights import weight
from hopline.words import ends_of

from tests.heap_models import FEW_ROWS, LONG, MIDDLING, chance_heaps, heaps_by_courses, is_heap_by_words
from tests.test_rows import rows_of
from tests.things import no_heaps, no_rows, no_whole_numbers

GREAT = "o" * 15 + "." * 15


def many_by_ends(row):
    return sum(many for frees, beads, many in ends_of(row))


def numbers_to_try(many, seed):
    """The first and last numbers, those about the middle, and some more."""
    chooser = random.Random(seed)
    near = [0, 1, 2, many // 3, many // 2 - 1, many // 2, many - 3, many - 2, many - 1]
    return sorted({number for number in near if 0 <= number < many} | {chooser.randrange(many) for turn in range(5)})


class TestNumbersOfHeaps(unittest.TestCase):

    def test_all_heaps_of_rows_of_few_places(self):
        for row in FEW_ROWS + rows_of(7) + ["oo.o.o..", "ooo...o.", "o.o.o.o."]:
            wanted = heaps_by_courses(row)
            self.assertEqual(heaps_many(row), len(wanted))
            for number, heap in enumerate(wanted):
                self.assertEqual(heap_at(row, number), heap)
                self.assertEqual(heap_number(row, heap), number)
            if len(wanted) <= 500:
                self.assertEqual(heaps_of(row), wanted)

    def test_by_hand(self):
        self.assertEqual(heaps_of("oo.."), [
            [(1, 2, "o"), (1, 3, "o")],
            [(0, 3, "o"), (1, 2, "o"), (1, 3, ".")],
            [(0, 3, "."), (1, 2, "o"), (1, 3, ".")],
            [(0, 2, "o"), (0, 3, "o"), (1, 2, ".")],
            [(0, 2, "o"), (0, 3, "."), (1, 2, ".")],
            [(0, 2, "."), (1, 2, ".")]])
        self.assertEqual(heaps_of("o."), [[(0, 1, "o")], [(0, 1, ".")]])
        for row in [".", "o", ".o", "..", "oo", "." * 30, "o" * 30, "." * 15 + "o" * 15]:
            self.assertEqual((heaps_many(row), heaps_of(row), heap_at(row, 0), heap_number(row, [])), (1, [[]], [], 0))

    def test_names_of_arguments(self):
        self.assertEqual(heaps_many(row="oo.."), 6)
        self.assertEqual(heap_at(number=1, row="o."), [(0, 1, ".")])
        self.assertEqual(heap_number(heap=[(0, 1, ".")], row="o."), 1)
        self.assertEqual(heaps_of(row="o."), [[(0, 1, "o")], [(0, 1, ".")]])

    def test_kinds_of_what_is_told(self):
        for row in FEW_ROWS:
            self.assertIs(type(heaps_many(row)), int)
            self.assertIs(type(heap_number(row, heap_at(row, 0))), int)
            for heap in heaps_of(row) + [heap_at(row, 0)]:
                self.assertIs(type(heap), list)
                self.assertEqual([type(each) for each in heap], [tuple] * len(heap))

    def test_as_many_as_the_ends_and_the_weight_tell(self):
        for row in FEW_ROWS + MIDDLING + LONG:
            self.assertEqual(heaps_many(row), many_by_ends(row))
            self.assertEqual(Part(heaps_many(row)), weight(row))
        self.assertEqual(heaps_many(GREAT), comb(30, 15))

    def test_single_numbers_of_rows_of_many_places(self):
        for row in MIDDLING + LONG:
            for number in numbers_to_try(heaps_many(row), len(row)):
                heap = heap_at(row, number)
                self.assertIs(is_heap(row, heap), True)
                self.assertEqual(heap_number(row, heap), number)
        for row in [LONG[10], GREAT, "o." * 15]:
            self.assertTrue(is_heap_by_words(row, heap_at(row, many_by_ends(row) // 2)))

    def test_the_first_and_the_last(self):
        for row in FEW_ROWS + MIDDLING + LONG:
            # The first course leaves out all free places that it can, the last one all beads.
            first = heap_at(row, 0)
            self.assertEqual({sign for bead, free, sign in first}, {"o"} if first else set())
            last = heap_at(row, heaps_many(row) - 1)
            self.assertEqual({sign for bead, free, sign in last}, {"."} if last else set())
        self.assertEqual(heap_at(GREAT, 0), [(14, free, "o") for free in range(15, 30)])
        self.assertEqual(heap_at(GREAT, comb(30, 15) - 1), [(bead, 15, ".") for bead in range(15)])

    def test_numbers_of_heaps_by_courses_in_any_order(self):
        for row in FEW_ROWS + MIDDLING + LONG:
            for heap in chance_heaps(row, 5, 41):
                number = heap_number(row, heap)
                self.assertEqual(heap_at(row, number), heap)
                self.assertTrue(0 <= number < heaps_many(row))

    def test_lesser_numbers_leave_the_free_place_out_where_they_part(self):
        def course(heap):
            # As courses go: by rising free places, the nearest bead first.
            return [sign for bead, free, sign in sorted(heap, key=lambda each: (each[1], -each[0]))]

        for row in MIDDLING + LONG:
            numbers = numbers_to_try(heaps_many(row), 43)
            for less, more in zip(numbers, numbers[1:]):
                signs = next(pair for pair in zip(course(heap_at(row, less)), course(heap_at(row, more)))
                             if pair[0] != pair[1])
                self.assertEqual(signs, ("o", "."))

    def test_in_no_long_time(self):
        start = time.perf_counter()
        for row in [GREAT] + LONG:
            many = heaps_many(row)
            for number in numbers_to_try(many, 47):
                heap_number(row, heap_at(row, number))
        self.assertLess(time.perf_counter() - start, 20)


class TestAllHeaps(unittest.TestCase):

    def test_just_about_five_hundred(self):
        for row, many in [("o.o..o...o.o.", 499), ("o...ooo..oo..", 500)]:
            found = heaps_of(row)
            self.assertEqual((len(found), many_by_ends(row)), (many, many))
            self.assertEqual(found, heaps_by_courses(row))
        for row, many in [("o..ooo.o....", 501), ("o...o.o.oo...", 501), ("oo.o......o..", 502)]:
            self.assertEqual(many_by_ends(row), many)
            with self.assertRaises(TooMany):
                heaps_of(row)

    def test_rows_of_twelve_places(self):
        for row in rows_of(12)[::17]:
            if many_by_ends(row) > 500:
                with self.assertRaises(TooMany):
                    heaps_of(row)
            else:
                self.assertEqual(len(heaps_of(row)), many_by_ends(row))

    def test_great_rows(self):
        for row in [GREAT, "o." * 15, "oo.." * 7 + "o."]:
            with self.assertRaises(TooMany):
                heaps_of(row)


class TestOwnership(unittest.TestCase):

    def test_told_lists_are_the_askers_own(self):
        for row in ["o.", "oo..", "o.o.", ".o", LONG[10][:12]]:
            kept = heaps_by_courses(row)
            one, other = heaps_of(row), heaps_of(row)
            for heap in one:
                heap.append("x")
                heap.insert(0, None)
            one.append("x")
            self.assertEqual(other, kept)
            for heap in other:
                del heap[:]
            del other[:]
            self.assertEqual(heaps_of(row), kept)
            told = heap_at(row, 0)
            told.append((0, 0, "x"))
            self.assertEqual(heap_at(row, 0), kept[0])
            self.assertEqual(heap_number(row, kept[-1]), len(kept) - 1)
            self.assertEqual(heaps_many(row), len(kept))

    def test_lists_within_are_unlike_lists(self):
        found = heaps_of("o.o.o.")
        self.assertEqual(len({id(heap) for heap in found}), len(found))

    def test_what_is_handed_in_stays_as_it_is(self):
        for row in ["o.", "oo..", LONG[10]]:
            for heap in chance_heaps(row, 2, 53) + [[(0, 1, "x")], [[0], [1]]]:
                kept = copy.deepcopy(heap)
                try:
                    heap_number(row, heap)
                except NoHeap:
                    pass
                self.assertEqual(heap, kept)


class TestRefusals(unittest.TestCase):

    def test_what_is_no_number_of_a_heap(self):
        for row in [".", "o.", "oo..", "o.o.o.", GREAT, LONG[10]]:
            many = heaps_many(row)
            for number in [-1, -2, -many, many, many + 1, 10 ** 50, -(10 ** 50)] + no_whole_numbers():
                with self.subTest(row=row, number=repr(number)):
                    with self.assertRaises(NoNumber):
                        heap_at(row, number)

    def test_what_is_no_heap(self):
        for row in [".", "o", "o.", "oo..", "o.o.o."]:
            for thing in no_heaps() + [None]:
                with self.subTest(row=row, thing=repr(thing)):
                    with self.assertRaises(NoHeap):
                        heap_number(row, thing)
        for row, thing in [("o.", []), ("oo.", [(1, 2, ".")]), ("oo.", [(0, 1, "o")]), (".", [(0, 1, "o")]),
                           ("o..", [(0, 2, "."), (0, 1, "o")])]:
            with self.assertRaises(NoHeap):
                heap_number(row, thing)

    def test_what_is_no_row_ahead_of_all_else(self):
        for thing in no_rows():
            with self.subTest(thing=repr(thing)):
                for call in [lambda: heaps_many(thing), lambda: heaps_of(thing), lambda: heap_at(thing, 0),
                             lambda: heap_at(thing, -1), lambda: heap_at(thing, None), lambda: heap_number(thing, []),
                             lambda: heap_number(thing, None), lambda: heap_number(thing, [(0, 1, "o")])]:
                    with self.assertRaises(NoRow):
                        call()


if __name__ == "__main__":
    unittest.main()
