"""hopline.rings: points 28 and 30, and 2 as far as it speaks of rings."""

import time
import unittest
from math import comb

from hopline.errors import NoRing
from hopline.lines import ring_weight
from hopline.parts import Part
from hopline.rings import is_ring, ring_chance, ring_changes, ring_comes, ring_goes

from tests.ring_models import (FEW_RINGS, LONG_RINGS, all_rings, chance_rings, changes_by_words, no_rings,
                               weight_by_lines)


class TestIsRing(unittest.TestCase):

    def test_rings(self):
        for ring in FEW_RINGS + LONG_RINGS:
            self.assertIs(is_ring(ring), True)
        for many in range(2, 13):
            for sign in "ab.":
                self.assertIs(is_ring(sign * many), True)
        self.assertIs(is_ring(thing="ab"), True)

    def test_what_is_none(self):
        for thing in no_rings():
            with self.subTest(thing=repr(thing)):
                self.assertIs(is_ring(thing), False)

    def test_another_sign_at_each_place(self):
        for place in range(12):
            for sign in ["o", "c", "A", "B", "x", "0", "\n", " ", "\t", "-", "/", ","]:
                self.assertIs(is_ring("a" * place + sign + "." * (11 - place)), False)


class TestRingChanges(unittest.TestCase):

    def test_by_hand(self):
        for ring, wanted in [
                ("..", []), ("aa", []), ("bb", []), ("ab", [(0, "ba")]), ("ba", [(1, "ab")]), ("a.", [(0, ".a")]),
                (".a", [(1, "a.")]), ("b.", [(0, ".b")]), (".b", [(1, "b.")]), ("ab.", [(0, "ba."), (1, "a.b")]),
                ("a.b", [(0, ".ab")]), (".ba", [(2, "ab.")]), ("b.a", [(0, ".ba"), (2, "a.b")]),
                ("ba.", [(1, "b.a")]), (".ab", [(1, ".ba"), (2, "ba.")]),
                ("a" + "." * 11, [(0, ".a" + "." * 10)]), ("." * 11 + "a", [(11, "a" + "." * 11)])]:
            self.assertEqual(ring_changes(ring), wanted)
            self.assertEqual(ring_changes(ring=ring), wanted)

    def test_each_ring(self):
        for ring in FEW_RINGS + all_rings(7) + LONG_RINGS:
            found = ring_changes(ring)
            self.assertIs(type(found), list)
            self.assertEqual(found, changes_by_words(ring))
            for change in found:
                self.assertIs(type(change), tuple)
                self.assertIs(is_ring(change[1]), True)

    def test_told_lists_are_the_askers_own(self):
        for ring in ["..", "ab.", "ab." * 4]:
            one, other = ring_changes(ring), ring_changes(ring)
            kept = list(one)
            self.assertIsNot(one, other)
            one.append(None)
            one.insert(0, (0, "aa"))
            self.assertEqual(other, kept)
            del other[:]
            self.assertEqual(ring_changes(ring), kept)

    def test_what_is_no_ring(self):
        for thing in no_rings():
            with self.subTest(thing=repr(thing)):
                with self.assertRaises(NoRing):
                    ring_changes(thing)


def all_moves(many):
    """What comes to each ring of so many places and what goes, by all changes and by all upper lines."""
    weights = {ring: weight_by_lines(ring) for ring in all_rings(many)}
    comes = {ring: 0 for ring in weights}
    goes = {ring: 0 for ring in weights}
    for ring in weights:
        for place, behind in changes_by_words(ring):
            comes[behind] += weights[ring]
            goes[ring] += weights[ring]
    return comes, goes


class TestComesAndGoes(unittest.TestCase):

    def test_by_hand(self):
        for ring, wanted in [("..", 0), ("aa", 0), ("ab", 1), ("ba", 1), ("a.", 2), ("b.", 1), ("ab.", 2), ("a.b", 2),
                             ("a" + "." * 11, 12)]:
            self.assertEqual(ring_comes(ring), wanted)
            self.assertEqual(ring_goes(ring), wanted)
            self.assertEqual(ring_comes(ring=ring), wanted)
            self.assertEqual(ring_goes(ring=ring), wanted)

    def test_all_rings_of_few_places(self):
        for many in range(2, 7):
            comes, goes = all_moves(many)
            for ring in all_rings(many):
                found = [ring_comes(ring), ring_goes(ring)]
                self.assertEqual([type(each) for each in found], [int, int])
                self.assertEqual(found, [comes[ring], goes[ring]])
                self.assertEqual(found[0], found[1])

    def test_rings_of_twelve_places_in_no_long_time(self):
        rings = LONG_RINGS + chance_rings(100, 12, 73) + chance_rings(50, 11, 79)
        start = time.perf_counter()
        found = [(ring_comes(ring), ring_goes(ring), ring_chance(ring)) for ring in rings]
        self.assertLess(time.perf_counter() - start, 20)
        for ring, (comes, goes, chance) in zip(rings, found):
            self.assertEqual(comes, goes)
            self.assertEqual(goes, ring_weight(ring) * len(changes_by_words(ring)))

    def test_the_rings_ahead_of_long_ones(self):
        for ring in LONG_RINGS[:8]:
            many = len(ring)
            # Each ring that is like it but for two signs, side by side, that are exchanged.
            others = {ring[:place] + ring[place + 1] + ring[place] + ring[place + 2:] for place in range(many - 1)}
            others.add(ring[-1] + ring[1:-1] + ring[0])
            ahead = [other for other in others for place, behind in changes_by_words(other) if behind == ring]
            self.assertEqual(ring_comes(ring), sum(weight_by_lines(other) for other in ahead))

    def test_what_is_no_ring(self):
        for thing in no_rings():
            for ask in [ring_comes, ring_goes, ring_chance]:
                with self.subTest(thing=repr(thing)):
                    with self.assertRaises(NoRing):
                        ask(thing)


class TestRingChance(unittest.TestCase):

    def test_by_hand(self):
        for ring, wanted in [("..", Part(1)), ("aa", Part(1)), ("bb", Part(1)), ("a.", Part(1, 2)), ("b.", Part(1, 2)),
                             ("ab", Part(1, 2)), ("ab.", Part(1, 9)), ("a.b", Part(2, 9)),
                             ("a" * 6 + "." * 6, Part(1, 924))]:
            self.assertEqual(ring_chance(ring), wanted)
            self.assertEqual(ring_chance(ring=ring), wanted)

    def test_weight_by_all_weights(self):
        for many in range(2, 7):
            together = {}
            for ring in all_rings(many):
                beads = (ring.count("a"), ring.count("b"))
                together[beads] = together.get(beads, 0) + weight_by_lines(ring)
            chances = {}
            for ring in all_rings(many):
                beads = (ring.count("a"), ring.count("b"))
                found = ring_chance(ring)
                self.assertIsInstance(found, Part)
                self.assertEqual(found, Part(weight_by_lines(ring), together[beads]))
                chances[beads] = chances.get(beads, Part(0)).plus(found)
            self.assertEqual(set(map(str, chances.values())), {"1"})

    def test_upper_lines_times_lower_lines(self):
        for ring in LONG_RINGS + chance_rings(20, 11, 83):
            many, firsts, beads = len(ring), ring.count("a"), len(ring) - ring.count(".")
            self.assertEqual(ring_chance(ring), Part(weight_by_lines(ring), comb(many, firsts) * comb(many, beads)))

    def test_asked_twice_alike(self):
        for ring in FEW_RINGS[:20] + LONG_RINGS:
            self.assertEqual(ring_chance(ring), ring_chance(ring))
            self.assertEqual((ring_comes(ring), ring_goes(ring)), (ring_comes(ring), ring_goes(ring)))


if __name__ == "__main__":
    unittest.main()
