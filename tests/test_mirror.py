"""hopline.mirror: point 25, and 2 as far as it speaks of the mirror."""

import copy
import random
import unittest
from itertools import product

from hopline.beneath import beneath_at, beneath_many
from hopline.errors import NoHeap, NoRow, NoWay
from hopline.greater import heap_back, heap_changed
from hopline.heaps import heap_weight, is_heap
from hopline.mirror import heap_mirrored, way_mirrored
from hopline.parts import Part
from hopline.rows import changed, mirrored, walls_of
from hopline.ways import is_way, way_of

from tests.heap_models import FEW_ROWS, LONG, MIDDLING, chance_heaps, heaps_by_courses
from tests.things import no_heaps, no_rows, no_texts

INN = Part(2, 3)
OUT = Part(5, 7)
SIXTY = Part(10 ** 59 + 7, 10 ** 59 + 9)
PACES = [(None, None), (INN, OUT), (INN, None), (None, OUT), (Part(3), Part(1, 4)), (SIXTY, Part(7, 10 ** 59))]


def pairs():
    """Rows and heaps of 1, few and up to 30 places."""
    few = [(row, heap) for row in FEW_ROWS for heap in heaps_by_courses(row)]
    return few + [(row, heap) for row in MIDDLING + LONG for heap in chance_heaps(row, 3, 41)]


class TestHeaps(unittest.TestCase):

    def test_by_hand(self):
        for row, heap, wanted in [
                (".", [], []), ("o", [], []), (".o", [], []), ("o.", [(0, 1, "o")], [(0, 1, ".")]),
                ("o.", [(0, 1, ".")], [(0, 1, "o")]), ("oo.", [(1, 2, "o")], [(0, 1, ".")]),
                ("oo.", [(0, 2, "o"), (1, 2, ".")], [(0, 1, "o"), (0, 2, ".")]),
                ("o.o.", [(0, 1, "o"), (0, 3, "."), (2, 3, ".")], [(0, 1, "o"), (0, 3, "o"), (2, 3, ".")]),
                ("." * 30, [], [])]:
            self.assertEqual(heap_mirrored(row, heap), wanted)
            self.assertEqual(heap_mirrored(heap=heap, row=row), wanted)

    def test_each_tuple(self):
        other = {"o": ".", ".": "o"}
        for row, heap in pairs():
            found = heap_mirrored(row, heap)
            self.assertIs(type(found), list)
            last = len(row) - 1
            wanted = {(last - free, last - bead, other[sign]) for bead, free, sign in heap}
            self.assertEqual(set(found), wanted)
            self.assertEqual(found, sorted(found))
            self.assertEqual(len(found), len(heap))
            for each in found:
                self.assertIs(type(each), tuple)

    def test_a_heap_of_the_row_in_the_mirror(self):
        for row, heap in pairs():
            found = heap_mirrored(row, heap)
            self.assertIs(is_heap(mirrored(row), found), True)
            self.assertEqual(heap_mirrored(mirrored(row), found), heap)

    def test_of_the_same_weight_for_the_paces_exchanged(self):
        for row, heap in pairs():
            found = heap_mirrored(row, heap)
            for inn, out in PACES:
                self.assertEqual(heap_weight(mirrored(row), found, out, inn), heap_weight(row, heap, inn, out))

    def test_all_heaps_come_to_all_heaps(self):
        for row in FEW_ROWS:
            found = [heap_mirrored(row, heap) for heap in heaps_by_courses(row)]
            self.assertEqual(sorted(found), sorted(heaps_by_courses(mirrored(row))))

    def test_changes_at_the_wall_in_the_mirror(self):
        for row, heap in pairs():
            many = len(row)
            self.assertEqual(walls_of(mirrored(row)), sorted(many - wall for wall in walls_of(row)))
            for wall in walls_of(row):
                self.assertEqual(changed(mirrored(row), many - wall), mirrored(changed(row, wall)))
                for change in [heap_changed, heap_back]:
                    then, filled, to = change(row, heap, wall)
                    found = change(mirrored(row), heap_mirrored(row, heap), many - wall)
                    self.assertEqual(found, (mirrored(then), heap_mirrored(then, filled), many - to))

    def test_told_heaps_are_the_askers_own(self):
        for row, heap in [(".", []), ("o.", [(0, 1, "o")]), ("oo..", heaps_by_courses("oo..")[3])]:
            kept = copy.deepcopy(heap)
            one, other = heap_mirrored(row, heap), heap_mirrored(row, heap)
            wanted = list(other)
            self.assertIsNot(one, other)
            self.assertIsNot(one, heap)
            one.append((9, 9, "x"))
            self.assertEqual(other, wanted)
            del other[:]
            self.assertEqual(heap_mirrored(row, heap), wanted)
            self.assertEqual(heap, kept)
            one = heap_mirrored(row, heap)
            heap.append(None)
            self.assertEqual(one, wanted)

    def test_refusals(self):
        for thing in no_heaps() + [None]:
            for row in [".", "o.", "oo..", "o." * 15]:
                with self.subTest(row=row, thing=repr(thing)):
                    with self.assertRaises(NoHeap):
                        heap_mirrored(row, thing)
        for row, heap in [("o.", []), ("oo.", [(0, 2, "o")]), ("o..", [(0, 1, "."), (0, 2, "o")]), (".", [(0, 0, "o")]),
                          ("o..", [(0, 2, "o"), (0, 1, "o")])]:
            kept = copy.deepcopy(heap)
            with self.assertRaises(NoHeap):
                heap_mirrored(row, heap)
            self.assertEqual(heap, kept)
        for thing in no_rows():
            for heap in [[], None, "x", [(0, 1, "o")]]:
                with self.subTest(thing=repr(thing)):
                    with self.assertRaises(NoRow):
                        heap_mirrored(thing, heap)


def way_turned(way):
    """A way turned about, each sign exchanged, sign by sign."""
    found = ""
    for step in way:
        found = {"/": "-", "-": "/"}[step] + found
    return found


def few_ways():
    return [way for many in range(0, 11, 2) for signs in product("/-", repeat=many)
            for way in ["".join(signs)] if is_way(way)]


def long_ways():
    chooser = random.Random(43)
    rows = MIDDLING + LONG
    told = [way_of(row, beneath_at(row, chooser.randrange(beneath_many(row)))) for row in rows]
    return told + ["/" * 31 + "-" * 31, "/-" * 31, "/" * 40 + "-" * 40, "/-" * 500, "//-" + "/-" * 300 + "-"]


class TestWays(unittest.TestCase):

    def test_by_hand(self):
        for way, wanted in [("", ""), ("/-", "/-"), ("//--", "//--"), ("/-/-", "/-/-"), ("/-//--", "//--/-"),
                            ("//-/--", "//-/--"), ("//-/--/-", "/-//-/--"), ("///--/--", "//-//---")]:
            self.assertEqual(way_mirrored(way), wanted)
            self.assertEqual(way_mirrored(way=way), wanted)

    def test_each_way(self):
        for way in few_ways() + long_ways():
            found = way_mirrored(way)
            self.assertIs(type(found), str)
            self.assertEqual(found, way_turned(way))
            self.assertIs(is_way(found), True)
            self.assertEqual(way_mirrored(found), way)

    def test_refusals(self):
        for thing in no_texts() + ["-/", "/", "-", "//-", "/--", "/-x", "x", " ", "/ -", "/-\n", "\n", "/-/", "/--/",
                                   "o.", "\\-", "/_", "/-" * 20 + "-/", "//--" * 10 + "/", ["/", "-"], ("/", "-")]:
            with self.subTest(thing=repr(thing)):
                with self.assertRaises(NoWay):
                    way_mirrored(thing)


if __name__ == "__main__":
    unittest.main()
