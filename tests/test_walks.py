"""hopline.walks: point 9, and 2 as far as it speaks of walks."""

import random
import unittest
from fractions import Fraction

from hopline.errors import HopError, NoPace, NoRow, NoStep, NoWall
from hopline.parts import Part
from hopline.sums import Sum
from hopline.walks import Walk

from tests.test_rows import LONG_ROWS, changed_by_words, open_by_words, rows_of
from tests.things import (Alike, Odd, check_alike, check_unlike, fraction_of, looked_at, no_paces, no_rows,
                          no_whole_numbers, part_of)

INN = Part(2, 3)
OUT = Part(5, 7)
ONE = Part(1)
PACES = [(None, None), (INN, OUT), (INN, None), (None, OUT), (Part(10 ** 59 + 7, 3), Part(1, 10 ** 59 + 9))]
FEW_ROWS = [row for many in range(1, 5) for row in rows_of(many)]


class Model:
    """What a Walk is to tell, from rows that are changed one by one and Python's own fractions."""

    def __init__(self, row, inn, out):
        self.rows = [row]
        self.done = []
        self.inn, self.out = fraction_of(inn), fraction_of(out)
        self.products = [Fraction(1)]

    def walls(self):
        row = self.rows[-1]
        return [wall for wall in range(len(row) + 1) if open_by_words(row, wall)]

    def pace(self, wall):
        return self.inn if wall == 0 else self.out if wall == len(self.rows[-1]) else Fraction(1)

    def chance(self, wall):
        if wall not in self.walls():
            return Fraction(0)
        return self.pace(wall) / sum(self.pace(other) for other in self.walls())

    def step(self, wall):
        self.products.append(self.products[-1] * self.chance(wall))
        self.rows.append(changed_by_words(self.rows[-1], wall))
        self.done.append(wall)

    def undo(self):
        self.products.pop()
        self.rows.pop()
        self.done.pop()

    def told(self):
        row = self.rows[-1]
        came = len([wall for wall in self.done if wall == 0])
        went = len([wall for wall in self.done if wall == len(row)])
        hopped = len([wall for wall in self.done if 0 < wall < len(row)])
        paces = ", ".join(f"Part({pace.numerator}, {pace.denominator})" for pace in (self.inn, self.out))
        return {"row": row, "walls": self.walls(), "done": list(self.done), "counts": (came, hopped, went),
                "chance": [part_of(self.chance(wall)) for wall in range(len(row) + 1)],
                "chances": part_of(self.products[-1]), "len": len(self.done), "str": row,
                "repr": f"Walk('{row}', {paces})"}


def told(walk):
    """All that a Walk tells."""
    row = walk.row()
    return {"row": row, "walls": walk.walls(), "done": walk.done(), "counts": walk.counts(),
            "chance": [walk.chance(wall) for wall in range(len(row) + 1)], "chances": walk.chances(),
            "len": len(walk), "str": str(walk), "repr": repr(walk)}


class TestWalking(unittest.TestCase):

    def check(self, walk, model):
        self.assertEqual(told(walk), model.told())

    def go(self, row, inn, out, steps, seed):
        """A Walk and its model through so many steps and undoings, checked behind each of them."""
        chooser = random.Random(seed)
        walk, model = Walk(row, inn, out), Model(row, inn, out)
        self.check(walk, model)
        for turn in range(steps):
            if model.done and chooser.randrange(4) == 0:
                model.undo()
                self.assertEqual(walk.undo(), model.rows[-1])
            else:
                walls = model.walls()
                wall = walls[chooser.randrange(len(walls))]
                model.step(wall)
                self.assertEqual(walk.step(wall), model.rows[-1])
            self.check(walk, model)
        while model.done:
            model.undo()
            self.assertEqual(walk.undo(), model.rows[-1])
            self.check(walk, model)
        self.assertEqual(walk.row(), row)

    def test_rows_of_few_places(self):
        for seed, row in enumerate(FEW_ROWS):
            for inn, out in PACES:
                with self.subTest(row=row, inn=inn, out=out):
                    self.go(row, inn, out, 25, seed)

    def test_rows_of_thirty_places(self):
        for seed, row in enumerate(LONG_ROWS):
            for inn, out in [(None, None), (INN, OUT)]:
                with self.subTest(row=row, inn=inn, out=out):
                    self.go(row, inn, out, 60, seed)

    def test_many_steps(self):
        chooser = random.Random(9)
        walk, model = Walk(".o" * 15, INN, OUT), Model(".o" * 15, INN, OUT)
        for turn in range(1500):
            wall = chooser.choice(model.walls())
            walk.step(wall)
            model.step(wall)
        self.check(walk, model)
        for turn in range(700):
            walk.undo()
            model.undo()
        self.check(walk, model)

    def test_steps_are_called_by_name(self):
        walk = Walk("..")
        self.assertEqual(walk.step(wall=0), "o.")
        self.assertEqual(walk.step(wall=1), ".o")
        self.assertEqual(walk.chance(wall=0), Part(1, 2))

    def test_a_course_by_hand(self):
        walk = Walk("..", Part(1, 2), Part(3))
        self.assertEqual(walk.step(0), "o.")
        self.assertEqual(walk.step(1), ".o")
        self.assertEqual(walk.chance(0), Part(1, 7))
        self.assertEqual(walk.chance(1), Part(0))
        self.assertEqual(walk.chance(2), Part(6, 7))
        self.assertEqual(walk.step(0), "oo")
        self.assertEqual(walk.step(2), "o.")
        self.assertEqual(walk.done(), [0, 1, 0, 2])
        self.assertEqual(walk.counts(), (2, 1, 1))
        self.assertEqual(walk.chances(), Part(1, 7))
        self.assertEqual(repr(walk), "Walk('o.', Part(1, 2), Part(3, 1))")
        self.assertEqual(str(walk), "o.")
        self.assertEqual(walk.undo(), "oo")
        self.assertEqual(walk.undo(), ".o")
        self.assertEqual(walk.step(2), "..")
        self.assertEqual(walk.done(), [0, 1, 2])
        self.assertEqual(walk.counts(), (1, 1, 1))
        self.assertEqual(walk.chances(), Part(6, 7))
        self.assertEqual(len(walk), 3)

    def test_row_of_one_place(self):
        walk = Walk(".", INN, OUT)
        self.assertEqual([walk.step(0), walk.step(1), walk.step(0)], ["o", ".", "o"])
        self.assertEqual(walk.counts(), (2, 0, 1))
        self.assertEqual(walk.chances(), ONE)
        self.assertEqual([walk.chance(0), walk.chance(1)], [Part(0), ONE])

    def test_kinds_of_what_is_told(self):
        walk = Walk(".o", INN, OUT)
        walk.step(0)
        self.assertIs(type(walk.walls()), list)
        self.assertIs(type(walk.done()), list)
        self.assertIs(type(walk.counts()), tuple)
        self.assertIsInstance(walk.chance(0), Part)
        self.assertIsInstance(walk.chances(), Part)
        self.assertIsInstance(walk.twin(), Walk)
        self.assertIs(type(walk.undo()), str)

    def test_chances_of_all_walls_come_to_one(self):
        for row in FEW_ROWS + LONG_ROWS:
            for inn, out in PACES:
                walk = Walk(row, inn, out)
                together = Part(0)
                for wall in range(len(row) + 1):
                    together = together.plus(walk.chance(wall))
                self.assertEqual(together, ONE)

    def test_paces_by_place_by_name_none_and_left_out(self):
        for walk, inn, out in [(Walk(".o"), ONE, ONE), (Walk(".o", None, None), ONE, ONE), (Walk(".o", INN), INN, ONE),
                               (Walk(".o", inn=INN), INN, ONE), (Walk(".o", INN, None), INN, ONE),
                               (Walk(".o", None, OUT), ONE, OUT), (Walk(".o", out=OUT), ONE, OUT),
                               (Walk(row=".o", inn=None, out=OUT), ONE, OUT), (Walk(".o", INN, OUT), INN, OUT),
                               (Walk(out=OUT, inn=INN, row=".o"), INN, OUT), (Walk(row=".o"), ONE, ONE)]:
            self.assertEqual(repr(walk), f"Walk('.o', {inn!r}, {out!r})")
            self.assertEqual(walk.chance(0), inn.over(inn.plus(out)))
            self.assertEqual(walk.chance(2), out.over(inn.plus(out)))


class TestOwnership(unittest.TestCase):

    def test_told_lists_are_the_askers_own(self):
        walk = Walk(".o.o", INN, OUT)
        for wall in [0, 2, 4, 1]:
            before = told(walk)
            for ask in [walk.walls, walk.done]:
                first, second = ask(), ask()
                self.assertIsNot(first, second)
                kept = list(second)
                first.append(99)
                first.insert(0, "x")
                self.assertEqual(second, kept)
                del second[:]
                self.assertEqual(ask(), kept)
            self.assertEqual(told(walk), before)
            walk.step(wall)

    def test_a_told_list_is_not_changed_later(self):
        walk = Walk("..")
        walk.step(0)
        done, walls = walk.done(), walk.walls()
        walk.step(1)
        self.assertEqual((done, walls), ([0], [1]))
        walk.undo()
        walk.undo()
        self.assertEqual((done, walls), ([0], [1]))

    def test_a_changed_list_of_steps_is_not_undone(self):
        walk = Walk("..")
        walk.step(0)
        walk.done().clear()
        self.assertEqual(walk.undo(), "..")
        walk.done().append(0)
        with self.assertRaises(NoStep):
            walk.undo()

    def test_asking_changes_nothing(self):
        walk = Walk(".o.", INN, OUT)
        walk.step(2)
        first = told(walk)
        for turn in range(3):
            self.assertEqual(told(walk), first)

    def test_paces_are_not_changed(self):
        inn, out = Part(4, 6), Part(10, 14)
        walk = Walk("..o", inn, out)
        for wall in [0, 3, 1, 2, 0]:
            walk.step(wall)
        walk.undo()
        self.assertEqual((inn.top, inn.bottom, out.top, out.bottom), (2, 3, 5, 7))

    def test_walks_of_the_same_row_go_by_themselves(self):
        one, other = Walk("..", INN), Walk("..", INN)
        one.step(0)
        self.assertEqual(other.row(), "..")
        self.assertEqual((len(one), len(other)), (1, 0))
        self.assertEqual(Walk("..").done(), [])


class TestRefusals(unittest.TestCase):

    def test_what_is_no_row_ahead_of_no_pace(self):
        for thing in no_rows():
            with self.subTest(thing=repr(thing)):
                for make in [lambda: Walk(thing), lambda: Walk(thing, INN, OUT), lambda: Walk(thing, "x", Part(0)),
                             lambda: Walk(row=thing, inn=0), lambda: Walk(row=thing, out=0)]:
                    with self.assertRaises(NoRow):
                        make()

    def test_no_paces(self):
        for thing in no_paces():
            with self.subTest(thing=repr(thing)):
                for row in [".", "o", "o.", "." * 30]:
                    for make in [lambda: Walk(row, thing), lambda: Walk(row, thing, OUT), lambda: Walk(row, INN, thing),
                                 lambda: Walk(row, inn=thing), lambda: Walk(row, out=thing),
                                 lambda: Walk(row, None, thing), lambda: Walk(row, thing, thing)]:
                        with self.assertRaises(NoPace):
                            make()

    def test_inn_is_looked_at_first(self):
        self.assertEqual(looked_at(lambda inn, out: Walk("o.", inn, out)), {"inn"})

    def walks(self):
        """Walks without steps, with steps, and with undone ones."""
        for row in [".", "o", "o.", ".o", "...", "ooo", ".o.o.", "." * 30, ".o" * 15]:
            walk = Walk(row, INN, OUT)
            yield walk
            for turn in range(3):
                walk.step(walk.walls()[-1])
            yield walk
            walk.undo()
            yield walk

    def check_refused(self, walk, act, thing):
        before = told(walk)
        with self.assertRaises(NoWall) as caught:
            act(thing)
        self.assertIs(caught.exception.wall, thing)
        self.assertIsInstance(caught.exception, IndexError)
        self.assertNotIsInstance(caught.exception, HopError)
        self.assertEqual(told(walk), before)

    def test_step_at_a_shut_wall(self):
        for walk in self.walks():
            for wall in range(len(walk.row()) + 1):
                if wall not in walk.walls():
                    with self.subTest(row=walk.row(), wall=wall):
                        self.check_refused(walk, walk.step, wall)
                        self.assertEqual(walk.chance(wall), Part(0))

    def test_what_is_no_wall_of_the_row(self):
        for walk in self.walks():
            many = len(walk.row())
            for wall in [-1, -2, -many, -many - 1, -many - 2, many + 1, many + 2, 1000, 10 ** 50, -(10 ** 50)]:
                with self.subTest(row=walk.row(), wall=wall):
                    self.check_refused(walk, walk.step, wall)
                    self.check_refused(walk, walk.chance, wall)

    def test_what_is_no_whole_number(self):
        for walk in self.walks():
            for thing in no_whole_numbers():
                with self.subTest(row=walk.row(), thing=repr(thing)):
                    self.check_refused(walk, walk.step, thing)
                    self.check_refused(walk, walk.chance, thing)

    def test_true_and_false_at_open_walls(self):
        for row, thing in [("o.", True), ("..", False), ("o", True), (".", False)]:
            walk = Walk(row)
            self.check_refused(walk, walk.step, thing)
            self.check_refused(walk, walk.chance, thing)

    def test_what_was_handed_in_is_not_changed(self):
        walk, wall = Walk(".."), [0, [1]]
        self.check_refused(walk, walk.step, wall)
        self.check_refused(walk, walk.chance, wall)
        self.assertEqual(wall, [0, [1]])

    def check_no_step(self, walk):
        before = told(walk)
        for turn in range(2):
            with self.assertRaises(NoStep):
                walk.undo()
            self.assertEqual(told(walk), before)

    def test_nothing_left_to_undo(self):
        for row in FEW_ROWS + LONG_ROWS:
            walk = Walk(row, INN, OUT)
            self.check_no_step(walk)
            with self.assertRaises(NoWall):
                walk.step(-1)
            self.check_no_step(walk)
            walk.step(walk.walls()[0])
            walk.step(walk.walls()[0])
            walk.undo()
            walk.undo()
            self.check_no_step(walk)
            self.assertEqual(walk.row(), row)
            walk.step(walk.walls()[0])
            self.assertEqual(len(walk), 1)

    def test_refused_steps_are_not_undone(self):
        walk = Walk("...")
        walk.step(0)
        for wall in [0, 3, None, -1]:
            with self.assertRaises(NoWall):
                walk.step(wall)
        walk.step(1)
        self.assertEqual(walk.undo(), "o..")
        self.assertEqual(walk.undo(), "...")
        self.check_no_step(walk)


class TestEqualWalks(unittest.TestCase):

    def test_same_row_and_paces(self):
        for row in FEW_ROWS + LONG_ROWS:
            for inn, out in PACES:
                check_alike(self, Walk(row, inn, out), Walk(row, inn, out))
        check_alike(self, Walk("o.", Part(2, 4), Part(9, 3)), Walk("o.", Part(1, 2), Part(3)))

    def test_none_is_the_part_of_one(self):
        for other in [Walk("o.", ONE, ONE), Walk("o.", None, ONE), Walk("o.", ONE), Walk("o.", out=Part(3, 3))]:
            check_alike(self, Walk("o."), other)

    def test_whatever_was_done(self):
        walk = Walk(".", INN, OUT)
        walk.step(0)
        check_alike(self, walk, Walk("o", INN, OUT))
        check_unlike(self, walk, [Walk(".", INN, OUT)])
        walk.step(1)
        check_alike(self, walk, Walk(".", INN, OUT))
        walk.undo()
        check_alike(self, walk, Walk("o", INN, OUT))
        one, other = Walk(".."), Walk("oo")
        for wall in [0, 1, 0]:
            one.step(wall)
        check_alike(self, one, other)
        self.assertNotEqual(one.done(), other.done())

    def test_other_rows_and_paces(self):
        check_unlike(self, Walk("o.", INN, OUT), [
            Walk(".o", INN, OUT), Walk("o", INN, OUT), Walk("o..", INN, OUT), Walk("o.", OUT, INN), Walk("o.", INN),
            Walk("o.", out=OUT), Walk("o."), Walk("o.", INN, INN), Walk("o.", OUT, OUT), Walk("oo", INN, OUT)])

    def test_equal_to_nothing_else(self):
        for walk in [Walk("o.", INN, OUT), Walk(".")]:
            check_unlike(self, walk, [
                walk.row(), repr(walk), None, True, False, 0, 1, [], [walk], (walk,), (walk.row(), INN, OUT), {}, Walk,
                Alike(walk), Odd(), Sum(walk.row()), Part(1), object(), b"o."])
        self.assertNotIn(Walk("."), [".", None, Walk("o"), Sum(".")])


class TestTwins(unittest.TestCase):

    def walk(self):
        walk = Walk(".o.", INN, OUT)
        for wall in [2, 0, 3, 1, 0]:
            walk.step(wall)
        walk.undo()
        return walk

    def test_a_twin_tells_all_alike(self):
        for row in FEW_ROWS + LONG_ROWS:
            for inn, out in PACES:
                walk = Walk(row, inn, out)
                for turn in range(4):
                    twin = walk.twin()
                    self.assertIsNot(twin, walk)
                    self.assertIs(type(twin), Walk)
                    self.assertEqual(told(twin), told(walk))
                    check_alike(self, twin, walk)
                    walk.step(walk.walls()[-1])

    def test_a_twin_undoes_the_steps(self):
        walk = self.walk()
        twin = walk.twin()
        before = told(walk)
        for done in [[2, 0, 3], [2, 0], [2], []]:
            twin.undo()
            self.assertEqual(twin.done(), done)
        self.assertEqual(twin.row(), ".o.")
        self.assertEqual(twin.chances(), ONE)
        with self.assertRaises(NoStep):
            twin.undo()
        self.assertEqual(told(walk), before)

    def test_what_is_done_to_the_one_changes_nothing_of_the_other(self):
        for turned in [False, True]:
            walk = self.walk()
            twin = walk.twin()
            one, other = (twin, walk) if turned else (walk, twin)
            before = told(other)
            one.step(one.walls()[0])
            self.assertEqual(told(other), before)
            while len(one):
                one.undo()
                self.assertEqual(told(other), before)
            one.step(0)
            self.assertEqual(told(other), before)
            kept = told(one)
            other.step(other.walls()[-1])
            other.undo()
            other.undo()
            self.assertEqual(told(one), kept)

    def test_a_twin_of_a_twin(self):
        walk = self.walk()
        twin = walk.twin()
        third = twin.twin()
        twin.undo()
        self.assertEqual(told(third), told(walk))
        self.assertEqual(len(twin), 3)

    def test_a_twin_refuses_alike(self):
        twin = self.walk().twin()
        before = told(twin)
        for wall in [True, None, -1, 4, "0"]:
            with self.assertRaises(NoWall) as caught:
                twin.step(wall)
            self.assertIs(caught.exception.wall, wall)
        self.assertEqual(told(twin), before)


if __name__ == "__main__":
    unittest.main()
