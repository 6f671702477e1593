"""hopline.greater: points 16 and 17, and 2 as far as it speaks of them."""

import copy
import unittest

from hopline.courses import heap_at, heaps_many
from hopline.errors import HopError, NoHeap, NoRow, NoWall
from hopline.greater import heap_back, heap_changed
from hopline.heaps import heap_weight, is_heap
from hopline.paces import pace_of
from hopline.parts import Part
from hopline.rows import changed, mirrored, walls_of
from hopline.weights import ahead_of

from tests.heap_models import (FEW_ROWS, LONG, MIDDLING, chance_heaps, heaps_by_courses, is_heap_by_words,
                               pair_changed_by_words)
from tests.test_rows import rows_of
from tests.things import no_heaps, no_rows, no_whole_numbers

INN = Part(2, 3)
OUT = Part(5, 7)
PACES = [(None, None), (INN, OUT), (INN, None), (None, OUT), (Part(10 ** 59 + 7, 3), Part(1, 10 ** 59 + 9))]
BOTH = [heap_changed, heap_back]


def pairs_of(many):
    """All tuples (row, heap, wall) of so many places, each wall an open one."""
    return [(row, heap, wall) for row in rows_of(many) for heap in heaps_by_courses(row) for wall in walls_of(row)]


def long_pairs():
    """Some tuples (row, heap, wall) of many places, all open walls of each."""
    return [(row, heap, wall) for row in MIDDLING + LONG
            for heap in chance_heaps(row, 3, 59) + [heap_at(row, 0), heap_at(row, heaps_many(row) - 1)]
            for wall in walls_of(row)]


def frozen(pair):
    row, heap, wall = pair
    return row, tuple(heap), wall


class TestChanges(unittest.TestCase):

    def test_by_hand(self):
        for given, wanted in [
                # One place: the bead that comes in goes to the wall behind it, the free place to the one ahead.
                ((".", [], 0), ("o", [], 1)), (("o", [], 1), (".", [], 0)),
                (("..", [], 0), ("o.", [(0, 1, ".")], 1)), (("oo", [], 2), ("o.", [(0, 1, "o")], 1)),
                (("o.", [(0, 1, "o")], 1), (".o", [], 0)), (("o.", [(0, 1, ".")], 1), (".o", [], 2)),
                ((".o", [], 0), ("oo", [], 2)), ((".o", [], 2), ("..", [], 0)),
                # The bead is put in as the last one of its block, the free place as the first one of its.
                ((".oo.", [(1, 3, "o"), (2, 3, ".")], 0), ("ooo.", [(0, 3, "o"), (1, 3, "."), (2, 3, ".")], 3)),
                (("o..o", [(0, 1, "o"), (0, 2, ".")], 4), ("o...", [(0, 1, "o"), (0, 2, "o"), (0, 3, ".")], 1)),
                (("o.o.", [(0, 1, "o"), (0, 3, "o"), (2, 3, ".")], 1), (".oo.", [(1, 3, "o"), (2, 3, ".")], 0)),
                (("o.o.", [(0, 1, "."), (2, 3, "o")], 1), (".oo.", [(1, 3, "o"), (2, 3, ".")], 3))]:
            self.assertEqual(heap_changed(*given), wanted)
            self.assertEqual(heap_back(*wanted), given)

    def test_names_of_arguments(self):
        self.assertEqual(heap_changed(wall=1, heap=[(0, 1, "o")], row="o."), (".o", [], 0))
        self.assertEqual(heap_back(wall=0, heap=[], row=".o"), ("o.", [(0, 1, "o")], 1))

    def check_change(self, row, heap, wall):
        kept = copy.deepcopy(heap)
        found = heap_changed(row, heap, wall)
        self.assertEqual(found, pair_changed_by_words(row, heap, wall))
        behind, new_heap, to = found
        self.assertEqual(behind, changed(row, wall))
        self.assertIs(is_heap(behind, new_heap), True)
        self.assertIn(to, walls_of(behind))
        self.assertEqual(heap_back(behind, new_heap, to), (row, heap, wall))
        self.assertEqual(heap, kept)
        self.assertEqual([type(each) for each in found], [str, list, int])
        self.assertIs(type(found), tuple)

    def check_back(self, row, heap, wall):
        kept = copy.deepcopy(heap)
        found = heap_back(row, heap, wall)
        ahead, old_heap, start = found
        self.assertIs(is_heap(ahead, old_heap), True)
        self.assertIn((start, ahead), ahead_of(row))
        self.assertEqual(pair_changed_by_words(ahead, old_heap, start), (row, heap, wall))
        self.assertEqual(heap_changed(ahead, old_heap, start), (row, heap, wall))
        self.assertEqual(heap, kept)
        self.assertEqual([type(each) for each in found], [str, list, int])
        self.assertIs(type(found), tuple)

    def test_all_pairs_of_few_places(self):
        for many in range(1, 7):
            for pair in pairs_of(many):
                self.check_change(*pair)
                self.check_back(*pair)

    def test_pairs_of_many_places(self):
        for pair in long_pairs():
            self.check_change(*pair)
            self.check_back(*pair)
        for row, heap, wall in long_pairs()[::41]:
            behind, new_heap, to = heap_changed(row, heap, wall)
            self.assertTrue(is_heap_by_words(behind, new_heap))

    def test_changes_come_to_all_pairs_each_once(self):
        for many in range(1, 7):
            every = pairs_of(many)
            come = [frozen(heap_changed(*pair)) for pair in every]
            self.assertEqual(len(set(come)), len(come))
            self.assertEqual(set(come), {frozen(pair) for pair in every})
            back = [frozen(heap_back(*pair)) for pair in every]
            self.assertEqual(len(set(back)), len(back))
            self.assertEqual(set(back), set(come))

    def test_a_row_and_heap_has_as_many_ways_to_it_as_from_it(self):
        for row in FEW_ROWS:
            for heap in heaps_by_courses(row):
                self.assertEqual(len({frozen(heap_back(row, heap, wall)) for wall in walls_of(row)}), len(walls_of(row)))

    def test_weight_times_pace_is_kept(self):
        few = [pair for many in range(1, 6) for pair in pairs_of(many)]
        for row, heap, wall in few + long_pairs()[::5]:
            behind, new_heap, to = heap_changed(row, heap, wall)
            for inn, out in PACES:
                goes = heap_weight(row, heap, inn, out).times(pace_of(row, wall, inn, out))
                comes = heap_weight(behind, new_heap, inn, out).times(pace_of(behind, to, inn, out))
                self.assertEqual(goes, comes)

    def test_in_the_mirror(self):
        def turned(row, heap, wall):
            last = len(row) - 1
            signs = {"o": ".", ".": "o"}
            return (mirrored(row), sorted((last - free, last - bead, signs[sign]) for bead, free, sign in heap),
                    len(row) - wall)

        few = [pair for many in range(1, 6) for pair in pairs_of(many)]
        for pair in few + long_pairs()[::7]:
            self.assertEqual(heap_changed(*turned(*pair)), turned(*heap_changed(*pair)))


class TestOwnership(unittest.TestCase):

    def test_told_heaps_are_the_askers_own(self):
        for row, heap, wall in [pair for many in range(1, 5) for pair in pairs_of(many)] + long_pairs()[::9]:
            for ask in BOTH:
                one, other = ask(row, heap, wall), ask(row, heap, wall)
                self.assertEqual(one, other)
                self.assertIsNot(one[1], other[1])
                self.assertIsNot(one[1], heap)
                kept = list(other[1])
                one[1].append("x")
                one[1].insert(0, None)
                self.assertEqual(other[1], kept)
                del other[1][:]
                self.assertEqual(ask(row, heap, wall)[1], kept)

    def test_a_handed_in_heap_that_is_changed_later_changes_nothing(self):
        for ask, row, heap, wall in [(heap_changed, ".oo.", [(1, 3, "o"), (2, 3, ".")], 0),
                                     (heap_back, ".oo.", [(1, 3, "o"), (2, 3, ".")], 3), (heap_changed, "..", [], 0)]:
            told = ask(row, heap, wall)
            kept = copy.deepcopy(told)
            heap.append((9, 9, "o"))
            heap.insert(0, None)
            self.assertEqual(told, kept)


class TestRefusals(unittest.TestCase):

    def check_no_wall(self, ask, row, heap, thing):
        kept = copy.deepcopy(heap)
        with self.assertRaises(NoWall) as caught:
            ask(row, heap, thing)
        self.assertIs(caught.exception.wall, thing)
        self.assertIsInstance(caught.exception, IndexError)
        self.assertNotIsInstance(caught.exception, HopError)
        self.assertEqual(heap, kept)

    def test_shut_walls_and_what_are_none(self):
        for row in [row for row in FEW_ROWS if len(row) <= 4] + LONG:
            heap = chance_heaps(row, 1, 61)[0]
            many = len(row)
            shut = [wall for wall in range(many + 1) if wall not in walls_of(row)]
            for wall in shut + [-1, -2, -many, -many - 1, many + 1, many + 2, 1000, 10 ** 50, -(10 ** 50)]:
                for ask in BOTH:
                    with self.subTest(ask=ask.__name__, row=row, wall=wall):
                        self.check_no_wall(ask, row, heap, wall)

    def test_what_is_no_whole_number(self):
        for row, heap in [(".", []), ("o", []), ("o.", [(0, 1, "o")]), ("..", []), ("." * 30, [])]:
            for thing in no_whole_numbers():
                for ask in BOTH:
                    with self.subTest(ask=ask.__name__, row=row, thing=repr(thing)):
                        self.check_no_wall(ask, row, heap, thing)

    def test_no_heap_ahead_of_no_wall(self):
        for thing in no_heaps() + [None]:
            for row in [".", "o.", "oo.."]:
                for wall in [0, 1, 2, -1, True, None, "x"]:
                    for ask in BOTH:
                        with self.subTest(ask=ask.__name__, row=row, thing=repr(thing), wall=wall):
                            with self.assertRaises(NoHeap):
                                ask(row, thing, wall)
        for ask in BOTH:
            for row, thing in [("o.", []), ("oo.", [(1, 2, ".")]), (".", [(0, 1, "o")]), ("o..", [(0, 1, "o")])]:
                with self.assertRaises(NoHeap):
                    ask(row, thing, 1)

    def test_no_row_ahead_of_all_else(self):
        for thing in no_rows():
            for heap in [[], None, "x", [(0, 1, "o")]]:
                for wall in [0, 1, -1, None]:
                    for ask in BOTH:
                        with self.subTest(ask=ask.__name__, thing=repr(thing)):
                            with self.assertRaises(NoRow):
                                ask(thing, heap, wall)


if __name__ == "__main__":
    unittest.main()
