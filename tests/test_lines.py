"""hopline.lines: point 29, and 2 as far as it speaks of lines."""

import random
import time
import unittest
from itertools import permutations
from math import comb

from hopline.errors import NoLines, NoRing
from hopline.lines import ring_of, ring_weight

from tests.ring_models import (FEW_RINGS, LONG_RINGS, beads_in, chance_rings, lines_with, lower_of, no_rings,
                               ring_by_words, weight_by_lines)
from tests.test_rows import rows_of
from tests.things import no_rows


def all_lines(many):
    return [(upper, lower) for upper in rows_of(many) for lower in rows_of(many)
            if upper.count("o") <= lower.count("o")]


def chance_lines(many, places, seed):
    """So many lines of so many places, always the same ones."""
    chooser = random.Random(seed)
    found = []
    while len(found) < many:
        upper, lower = ["".join(chooser.choice("o.") for place in range(places)) for line in range(2)]
        found.append((upper, lower) if upper.count("o") <= lower.count("o") else (lower, upper))
    return found


FEW_LINES = [lines for many in range(2, 6) for lines in all_lines(many)]
LONG_LINES = [lines for many in range(6, 13) for lines in chance_lines(25, many, many)] + [
    ("o" * 12, "o" * 12), ("." * 12, "." * 12), ("." * 12, "o" * 12), ("o" * 6 + "." * 6, "." * 6 + "o" * 6),
    ("." * 6 + "o" * 6, "o" * 6 + "." * 6), ("o" + "." * 11, "." * 11 + "o"), ("." * 11 + "o", "o" + "." * 11)]


def turned(text, by):
    return text[by:] + text[:by]


class TestRingOf(unittest.TestCase):

    def test_by_hand(self):
        for upper, lower, wanted in [
                ("..", "..", ".."), ("..", "o.", "b."), ("o.", "o.", "a."), ("o.", ".o", ".a"), (".o", "o.", "a."),
                ("o.", "oo", "ab"), (".o", "oo", "ba"), ("oo", "oo", "aa"), ("..o", "o.o", "b.a"), (".o.", "o.o", "a.b"),
                ("o..", ".oo", ".ba"), (".oo", "oo.", "aa."), ("oo.", ".oo", ".aa"), ("oo.", "ooo", "aab"),
                ("oo..", "o.oo", "a.ba"), ("...oo", "oo..o", "ba..a")]:
            self.assertEqual(ring_of(upper, lower), wanted)
            self.assertEqual(ring_of(lower=lower, upper=upper), wanted)

    def test_in_each_order_of_few_beads(self):
        for upper, lower in FEW_LINES:
            found = ring_of(upper, lower)
            self.assertIs(type(found), str)
            for order in permutations(beads_in(upper)):
                self.assertEqual(found, ring_by_words(upper, lower, order))

    def test_in_more_than_one_order_of_many_beads(self):
        chooser = random.Random(59)
        for upper, lower in LONG_LINES:
            found = ring_of(upper, lower)
            beads = beads_in(upper)
            for order in [beads, beads[::-1]] + [chooser.sample(beads, len(beads)) for turn in range(3)]:
                self.assertEqual(found, ring_by_words(upper, lower, order))

    def test_turned_round_alike(self):
        for upper, lower in FEW_LINES + LONG_LINES:
            for by in range(len(upper)):
                self.assertEqual(ring_of(turned(upper, by), turned(lower, by)), turned(ring_of(upper, lower), by))

    def test_as_many_beads_as_the_lines_have(self):
        for upper, lower in FEW_LINES + LONG_LINES:
            found = ring_of(upper, lower)
            self.assertEqual(found.count("a"), upper.count("o"))
            self.assertEqual(lower_of(found), lower)
            self.assertEqual(ring_of(upper, lower), found)

    def test_a_line_above_itself(self):
        for many in range(2, 9):
            for row in rows_of(many):
                self.assertEqual(ring_of(row, row), row.replace("o", "a"))

    def check_refused(self, upper, lower):
        with self.subTest(upper=repr(upper), lower=repr(lower)):
            with self.assertRaises(NoLines):
                ring_of(upper, lower)

    def test_what_are_no_rows(self):
        for thing in no_rows():
            for other in ["o.", "..", "oooo", "o" * 12, "o", "", None]:
                self.check_refused(thing, other)
                self.check_refused(other, thing)
            self.check_refused(thing, thing)

    def test_unlike_lengths(self):
        for one in range(1, 14):
            for other in range(1, 14):
                if one != other:
                    self.check_refused("." * one, "o" * other)
                    self.check_refused("o" * one, "o" * other)

    def test_too_few_and_too_many_places(self):
        for many in [1, 13, 14, 20, 30]:
            for upper, lower in [(".", "."), (".", "o"), ("o", "o")]:
                self.check_refused(upper * many, lower * many)
        for many in [2, 12]:
            for upper, lower in [(".", "."), (".", "o"), ("o", "o")]:
                self.assertEqual(len(ring_of(upper * many, lower * many)), many)

    def test_more_beads_above(self):
        for many in range(2, 6):
            for upper in rows_of(many):
                for lower in rows_of(many):
                    if upper.count("o") > lower.count("o"):
                        self.check_refused(upper, lower)
        self.check_refused("o" * 12, "o" * 11 + ".")
        self.check_refused("o" + "." * 11, "." * 12)


class TestRingWeight(unittest.TestCase):

    def test_by_hand(self):
        for ring, wanted in [("..", 1), ("bb", 1), ("aa", 1), ("a.", 2), ("b.", 1), ("ab", 1), ("ba", 1), ("ab.", 1),
                             ("a.b", 2), ("aab", 1), ("a..", 3), ("aa.", 3), ("a" + "." * 11, 12),
                             ("a" * 6 + "." * 6, 924), ("b" * 12, 1), ("a.b" * 4, 16)]:
            self.assertEqual(ring_weight(ring), wanted)
            self.assertEqual(ring_weight(ring=ring), wanted)

    def test_going_through_all_upper_lines(self):
        for ring in FEW_RINGS + chance_rings(40, 7, 61) + chance_rings(20, 9, 67) + LONG_RINGS:
            found = ring_weight(ring)
            self.assertIs(type(found), int)
            self.assertGreaterEqual(found, 1)
            self.assertEqual(found, weight_by_lines(ring), ring)

    def test_going_through_all_upper_lines_by_ring_of(self):
        for ring in FEW_RINGS:
            uppers = lines_with(len(ring), ring.count("a"))
            self.assertEqual(ring_weight(ring), sum(ring_of(upper, lower_of(ring)) == ring for upper in uppers))

    def test_turned_round(self):
        for ring in FEW_RINGS + LONG_RINGS:
            for by in range(len(ring)):
                self.assertEqual(ring_weight(turned(ring, by)), ring_weight(ring))

    def check_together(self, rings, kept, wanted):
        """Check that rings that are alike in what is kept come together to so many."""
        together = {}
        for ring in rings:
            told = (kept(ring), ring.count("a"), ring.count("b"))
            together[told] = together.get(told, 0) + ring_weight(ring)
        for (same, firsts, seconds), found in together.items():
            self.assertEqual(found, wanted(len(same), firsts, seconds))

    def test_second_beads_and_free_places_exchanged(self):
        rings = FEW_RINGS + [ring for ring in self.rings_of_eight()]
        self.check_together(rings, lambda ring: ring.replace("b", "."),
                            lambda many, firsts, seconds: comb(many, firsts + seconds))

    def test_beads_of_both_kinds_exchanged(self):
        rings = FEW_RINGS + [ring for ring in self.rings_of_eight()]
        self.check_together(rings, lower_of, lambda many, firsts, seconds: comb(many, firsts))

    def rings_of_eight(self):
        """All rings of eight places, three of them beads of the first kind and two of the second."""
        return ["".join("a" if place in firsts else "b" if place in seconds else "." for place in range(8))
                for firsts in map(beads_in, lines_with(8, 3)) for seconds in map(beads_in, lines_with(8, 2))
                if not set(firsts) & set(seconds)]

    def test_in_no_long_time(self):
        start = time.perf_counter()
        for ring in chance_rings(300, 12, 71):
            ring_weight(ring)
        self.assertLess(time.perf_counter() - start, 20)

    def test_what_is_no_ring(self):
        for thing in no_rings():
            with self.subTest(thing=repr(thing)):
                with self.assertRaises(NoRing):
                    ring_weight(thing)


if __name__ == "__main__":
    unittest.main()
