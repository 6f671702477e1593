"""hopline.heapwalks: point 18, and 2 as far as it speaks of HeapWalks."""

import random
import unittest

from hopline.courses import heap_at
from hopline.errors import HopError, NoHeap, NoRow, NoWall
from hopline.greater import heap_changed
from hopline.heapwalks import HeapWalk
from hopline.parts import Part
from hopline.rows import walls_of
from hopline.sums import Sum
from hopline.walks import Walk

from tests.heap_models import FEW_ROWS, LONG, chance_heaps, heaps_by_courses, pair_changed_by_words
from tests.test_greater import pairs_of
from tests.things import Alike, Odd, check_alike, check_unlike, no_heaps, no_rows, no_whole_numbers

SHORT_ROWS = [row for row in FEW_ROWS if len(row) <= 4]


def told(walk):
    """All that a HeapWalk tells."""
    return {"row": walk.row(), "heap": walk.heap(), "done": walk.done(), "len": len(walk), "str": str(walk)}


class Model:
    """What a HeapWalk is to tell, from the document's taking out and putting in."""

    def __init__(self, row, heap, ways_back):
        self.row, self.heap, self.done = row, heap, []
        self.ways_back = ways_back

    def step(self, wall):
        self.row, self.heap, to = pair_changed_by_words(self.row, self.heap, wall)
        self.done.append(wall)
        return to

    def step_back(self, wall):
        self.row, heap, start = self.ways_back[self.row, tuple(self.heap), wall]
        self.heap = list(heap)
        self.done.append((wall,))
        return start

    def told(self):
        return {"row": self.row, "heap": self.heap, "done": self.done, "len": len(self.done), "str": self.row}


def ways_back(many):
    """From where a change comes to each row, heap and wall, by all changes of rows of so many places."""
    ways = {}
    for row, heap, wall in pairs_of(many):
        behind, new_heap, to = pair_changed_by_words(row, heap, wall)
        ways[behind, tuple(new_heap), to] = (row, tuple(heap), wall)
    return ways


class TestWalking(unittest.TestCase):

    def test_rows_of_few_places(self):
        chooser = random.Random(67)
        for many in range(1, 6):
            ways = ways_back(many)
            for row in [row for row in FEW_ROWS if len(row) == many]:
                heap = chooser.choice(heaps_by_courses(row))
                walk, model = HeapWalk(row, heap), Model(row, heap, ways)
                self.assertEqual(told(walk), model.told())
                for turn in range(30):
                    wall = chooser.choice(walls_of(model.row))
                    if chooser.randrange(3):
                        self.assertEqual(walk.step(wall), model.step(wall))
                    else:
                        self.assertEqual(walk.step_back(wall), model.step_back(wall))
                    self.assertEqual(told(walk), model.told())

    def test_rows_of_many_places_there_and_back(self):
        chooser = random.Random(71)
        for row in LONG:
            heap = chance_heaps(row, 1, 73)[0]
            walk = HeapWalk(row, heap)
            pairs, walls, come = [(row, heap)], [], []
            for turn in range(60):
                wall = chooser.choice(walls_of(walk.row()))
                wanted = pair_changed_by_words(walk.row(), walk.heap(), wall)
                come.append(walk.step(wall))
                walls.append(wall)
                self.assertEqual((walk.row(), walk.heap(), come[-1]), wanted)
                pairs.append((walk.row(), walk.heap()))
                self.assertEqual((walk.done(), len(walk), str(walk)), (walls, len(walls), walk.row()))
            for turn in range(60):
                self.assertEqual((walk.row(), walk.heap()), pairs.pop())
                self.assertEqual(walk.step_back(come[59 - turn]), walls[59 - turn])
                self.assertEqual(walk.done(), walls + [(wall,) for wall in come[59 - turn:][::-1]])
                self.assertEqual((len(walk), str(walk)), (61 + turn, walk.row()))
            self.assertEqual((walk.row(), walk.heap()), (row, heap))

    def test_back_first_and_there_again(self):
        chooser = random.Random(79)
        for row in LONG[:6] + ["o.o.o.", ".", "o"]:
            walk = HeapWalk(row)
            for turn in range(20):
                before = (walk.row(), walk.heap())
                wall = chooser.choice(walls_of(walk.row()))
                start = walk.step_back(wall)
                self.assertEqual(heap_changed(walk.row(), walk.heap(), start), before + (wall,))
                self.assertEqual(walk.step(start), wall)
                self.assertEqual((walk.row(), walk.heap()), before)
                self.assertEqual(walk.done()[-2:], [(wall,), start])
                walk.step(wall)

    def test_by_hand(self):
        walk = HeapWalk("..")
        self.assertEqual(told(walk), {"row": "..", "heap": [], "done": [], "len": 0, "str": ".."})
        self.assertEqual(walk.step(0), 1)
        self.assertEqual((walk.row(), walk.heap()), ("o.", [(0, 1, ".")]))
        self.assertEqual(walk.step(1), 2)
        self.assertEqual((walk.row(), walk.heap()), (".o", []))
        self.assertEqual(walk.step_back(0), 1)
        self.assertEqual(told(walk), {"row": "o.", "heap": [(0, 1, "o")], "done": [0, 1, (0,)], "len": 3, "str": "o."})
        self.assertEqual(walk.step_back(wall=1), 2)
        self.assertEqual(walk.row(), "oo")
        self.assertEqual(walk.step(wall=2), 1)
        self.assertEqual(walk.done(), [0, 1, (0,), (1,), 2])

    def test_without_a_heap_and_with_none(self):
        for row in FEW_ROWS + LONG:
            wanted = {"row": row, "heap": heap_at(row, 0), "done": [], "len": 0, "str": row}
            for walk in [HeapWalk(row), HeapWalk(row, None), HeapWalk(row, heap=None), HeapWalk(row=row)]:
                self.assertEqual(told(walk), wanted)
        for row in SHORT_ROWS:
            self.assertEqual(HeapWalk(row).heap(), heaps_by_courses(row)[0])
            for heap in heaps_by_courses(row):
                for walk in [HeapWalk(row, heap), HeapWalk(row, heap=heap), HeapWalk(heap=heap, row=row)]:
                    self.assertEqual((walk.row(), walk.heap(), walk.done()), (row, heap, []))

    def test_kinds_of_what_is_told(self):
        walk = HeapWalk("o.o.")
        self.assertIs(type(walk.step(1)), int)
        self.assertIs(type(walk.step_back(walls_of(walk.row())[0])), int)
        self.assertIs(type(walk.row()), str)
        self.assertIs(type(walk.heap()), list)
        self.assertIs(type(walk.done()), list)
        self.assertEqual([type(wall) for wall in walk.done()], [int, tuple])


class TestOwnership(unittest.TestCase):

    def test_told_lists_are_the_askers_own(self):
        for row in ["o.o.", "oo..", ".", LONG[10]]:
            walk = HeapWalk(row)
            for turn in range(4):
                before = told(walk)
                for ask in [walk.heap, walk.done]:
                    one, other = ask(), ask()
                    self.assertIsNot(one, other)
                    kept = list(other)
                    one.append("x")
                    one.insert(0, None)
                    self.assertEqual(other, kept)
                    del other[:]
                    self.assertEqual(ask(), kept)
                self.assertEqual(told(walk), before)
                walk.step(walls_of(walk.row())[-1])

    def test_a_told_list_is_not_changed_later(self):
        walk = HeapWalk("oo..")
        walk.step(2)
        heap, done = walk.heap(), walk.done()
        kept = (list(heap), list(done))
        walk.step(1)
        walk.step_back(walls_of(walk.row())[0])
        self.assertEqual((heap, done), kept)

    def test_a_handed_in_heap_that_is_changed_changes_nothing(self):
        for row in ["o.o.", "oo..", LONG[10]]:
            heap = chance_heaps(row, 1, 83)[0]
            kept = list(heap)
            walk, other = HeapWalk(row, heap), HeapWalk(row, list(heap))
            walk.step(walls_of(row)[0])
            self.assertEqual(heap, kept)
            other.step(walls_of(row)[0])
            third = HeapWalk(row, heap)
            heap.append((0, 0, "x"))
            del heap[0]
            self.assertEqual(third.heap(), kept)
            third.step(walls_of(row)[0])
            self.assertEqual(told(walk), told(other))
            self.assertEqual(told(third), told(other))

    def test_walks_of_the_same_row_go_by_themselves(self):
        heap = [(0, 1, "o")]
        one, other = HeapWalk("o.", heap), HeapWalk("o.", heap)
        one.step(1)
        self.assertEqual(told(other), {"row": "o.", "heap": heap, "done": [], "len": 0, "str": "o."})
        self.assertEqual(HeapWalk("o.", heap).done(), [])

    def test_asking_changes_nothing(self):
        walk = HeapWalk("o.o.")
        walk.step(1)
        first = told(walk)
        for turn in range(3):
            self.assertEqual(told(walk), first)


class TestEquality(unittest.TestCase):

    def test_same_rows_and_heaps(self):
        for row in SHORT_ROWS + LONG[:3]:
            for heap in chance_heaps(row, 2, 89):
                check_alike(self, HeapWalk(row, heap), HeapWalk(row, list(heap)))
            check_alike(self, HeapWalk(row), HeapWalk(row, heap_at(row, 0)))

    def test_whatever_was_done(self):
        walk = HeapWalk("oo..")
        wall = walk.step(2)
        check_alike(self, walk, HeapWalk(walk.row(), walk.heap()))
        check_unlike(self, walk, [HeapWalk("oo..")])
        walk.step_back(wall)
        check_alike(self, walk, HeapWalk("oo.."))
        self.assertEqual(len(walk), 2)

    def test_other_rows_and_heaps(self):
        every = [HeapWalk(row, heap) for row in SHORT_ROWS for heap in heaps_by_courses(row)]
        for at, walk in enumerate(every):
            check_unlike(self, walk, every[max(0, at - 5):at] + every[at + 1:at + 6])
        check_unlike(self, HeapWalk("."), [HeapWalk("o"), HeapWalk(".."), HeapWalk(".o")])

    def test_equal_to_nothing_else(self):
        for walk in [HeapWalk("o."), HeapWalk(".")]:
            check_unlike(self, walk, [
                walk.row(), walk.heap(), str(walk), None, True, False, 0, 1, [], [walk], (walk,), (walk.row(), walk.heap()),
                {}, HeapWalk, Alike(walk), Odd(), Walk(walk.row()), Sum(walk.row()), Part(1), object(), b"o."])
        self.assertNotIn(HeapWalk("."), [".", None, HeapWalk("o"), Walk("."), Sum(".")])


class TestRefusals(unittest.TestCase):

    def test_what_is_no_row_ahead_of_no_heap(self):
        for thing in no_rows():
            with self.subTest(thing=repr(thing)):
                for make in [lambda: HeapWalk(thing), lambda: HeapWalk(thing, None), lambda: HeapWalk(thing, []),
                             lambda: HeapWalk(thing, "x"), lambda: HeapWalk(row=thing, heap=[(0, 1, "o")])]:
                    with self.assertRaises(NoRow):
                        make()

    def test_what_is_no_heap(self):
        for row in [".", "o", "o.", "oo..", "." * 30]:
            for thing in no_heaps():
                with self.subTest(row=row, thing=repr(thing)):
                    kept = repr(thing)
                    for make in [lambda: HeapWalk(row, thing), lambda: HeapWalk(heap=thing, row=row)]:
                        with self.assertRaises(NoHeap):
                            make()
                    self.assertEqual(repr(thing), kept)
        for row, thing in [("o.", []), ("oo.", [(1, 2, ".")]), (".", [(0, 1, "o")]), ("o..", [(0, 2, "."), (0, 1, "o")])]:
            with self.assertRaises(NoHeap):
                HeapWalk(row, thing)

    def walks(self):
        """HeapWalks without steps, with steps, and with steps back."""
        for row in [".", "o", "o.", ".o", "o.o.", ".o.o.", "." * 30, "o." * 15, LONG[10]]:
            walk = HeapWalk(row)
            yield walk
            for turn in range(3):
                walk.step(walls_of(walk.row())[-1])
            yield walk
            walk.step_back(walls_of(walk.row())[0])
            yield walk

    def check_refused(self, walk, thing):
        before, twin = told(walk), HeapWalk(walk.row(), walk.heap())
        for act in [walk.step, walk.step_back]:
            with self.assertRaises(NoWall) as caught:
                act(thing)
            self.assertIs(caught.exception.wall, thing)
            self.assertIsInstance(caught.exception, IndexError)
            self.assertNotIsInstance(caught.exception, HopError)
            self.assertEqual(told(walk), before)
            self.assertEqual(walk, twin)

    def test_shut_walls(self):
        for walk in self.walks():
            for wall in range(len(walk.row()) + 1):
                if wall not in walls_of(walk.row()):
                    with self.subTest(row=walk.row(), wall=wall):
                        self.check_refused(walk, wall)

    def test_what_is_no_wall_of_the_row(self):
        for walk in self.walks():
            many = len(walk.row())
            for wall in [-1, -2, -many, -many - 1, -many - 2, many + 1, many + 2, 1000, 10 ** 50, -(10 ** 50)]:
                with self.subTest(row=walk.row(), wall=wall):
                    self.check_refused(walk, wall)

    def test_what_is_no_whole_number(self):
        for walk in self.walks():
            for thing in no_whole_numbers() + [(0,), (1,), [0, [1]]]:
                with self.subTest(row=walk.row(), thing=repr(thing)):
                    self.check_refused(walk, thing)

    def test_true_and_false_at_open_walls(self):
        for row, thing in [("o.", True), ("..", False), ("o", True), (".", False)]:
            self.check_refused(HeapWalk(row), thing)

    def test_goes_on_behind_a_refusal(self):
        walk, other = HeapWalk("o.o."), HeapWalk("o.o.")
        for wall in [1, 0, 4]:
            if wall in walls_of(walk.row()):
                self.check_refused(walk, 99)
                self.assertEqual(walk.step(wall), other.step(wall))
        self.assertEqual(told(walk), told(other))


if __name__ == "__main__":
    unittest.main()
