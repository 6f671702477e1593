"""The whole program: points 1, 2 and 3, sentence by sentence, through what the modules tell together."""

import copy
import random
import unittest
from fractions import Fraction
from math import comb

from hopline.beneath import beneath_at, beneath_many, is_beneath
from hopline.chances import bead_chance, beads_on, both_chance, number_chances, wall_chance
from hopline.courses import heap_at, heap_number, heaps_many, heaps_of
from hopline.greater import heap_back, heap_changed
from hopline.heaps import cells_of, heap_weight, is_heap, left_in
from hopline.heaptables import heap_table, is_heap_still
from hopline.heapwalks import HeapWalk
from hopline.lines import ring_of, ring_weight
from hopline.mirror import heap_mirrored, way_mirrored
from hopline.paces import changes, pace_of
from hopline.parts import Part
from hopline.rings import ring_chance, ring_changes, ring_comes, ring_goes
from hopline.rows import changed, mirrored, row_at, row_number, walls_of
from hopline.sums import Sum
from hopline.tables import is_still, table, times_told
from hopline.totals import row_chance, through, total
from hopline.walks import Walk
from hopline.ways import is_way, rows_of, way_of, ways_many
from hopline.weights import ahead_of, comes, goes, weight
from hopline.words import ends_of, places_in

from tests.ring_models import all_rings, lines_with, lower_of
from tests.things import fraction_of

INN = Part(2, 3)
OUT = Part(5, 7)
ONE = Part(1)
PACES = [(ONE, ONE), (INN, OUT), (Part(3), Part(1, 4)), (Part(1, 3), Part(2, 3))]


def all_rows(many):
    return [row_at(many, number) for number in range(2 ** many)]


FEW_ROWS = [row for many in range(1, 6) for row in all_rows(many)]


def together(parts):
    result = Part(0)
    for part in parts:
        result = result.plus(part)
    return result


def frozen(row, heap):
    return row, tuple(heap)


def rank_of(lines):
    """How many of the lines of numbers don't come of the others, by taking multiples off."""
    lines = [list(line) for line in lines]
    rank = 0
    for column in range(len(lines[0])):
        chosen = next((at for at in range(rank, len(lines)) if lines[at][column]), None)
        if chosen is None:
            continue
        lines[rank], lines[chosen] = lines[chosen], lines[rank]
        for at in range(rank + 1, len(lines)):
            off = lines[at][column] / lines[rank][column]
            if off:
                lines[at] = [one - off * other for one, other in zip(lines[at], lines[rank])]
        rank += 1
    return rank


def more_comes(many, inn, out):
    """A line for each row: by what each row's weight is multiplied to tell how much more comes to this one than goes."""
    rows = all_rows(many)
    lines = [[Fraction(0)] * len(rows) for row in rows]
    for at, row in enumerate(rows):
        for wall, pace, behind in changes(row, inn, out):
            lines[row_number(behind)][at] += fraction_of(pace)
            lines[at][at] -= fraction_of(pace)
    return lines


class TestWords(unittest.TestCase):

    def finished(self, word, choose):
        found = Sum(word)
        while not found.is_finished():
            open_words = [each for each, many in found.words() if places_in(each)]
            each = choose(open_words)
            found.shorten(each, choose(places_in(each)))
        return found

    def test_whatever_is_shortened_first(self):
        chooser = random.Random(89)
        for row in FEW_ROWS:
            wanted = Sum(row)
            wanted.finish()
            for choose in [min, max, chooser.choice, chooser.choice]:
                self.assertEqual(self.finished(row, choose), wanted)
            ends = sorted((word.count("."), word.count("o"), many) for word, many in wanted.words())
            self.assertEqual(ends_of(row), ends)

    def test_by_it_each_row_has_its_weight(self):
        for row in FEW_ROWS:
            finished = Sum(row)
            finished.finish()
            for inn, out in PACES:
                parts = [Part(many).over(inn.raised(word.count("."))).over(out.raised(word.count("o")))
                         for word, many in finished.words()]
                self.assertEqual(weight(row, inn, out), together(parts))


class TestWeights(unittest.TestCase):

    def test_as_much_comes_as_goes(self):
        for row in FEW_ROWS:
            for inn, out in PACES:
                going = together(weight(row, inn, out).times(pace) for wall, pace, behind in changes(row, inn, out))
                coming = together(weight(ahead, inn, out).times(pace_of(ahead, wall, inn, out))
                                  for wall, ahead in ahead_of(row))
                self.assertEqual([comes(row, inn, out), goes(row, inn, out)], [coming, going])
                self.assertEqual(coming, going)
                self.assertTrue(all(changed(ahead, wall) == row for wall, ahead in ahead_of(row)))

    def test_no_others_but_multiples(self):
        for many in range(1, 5):
            for inn, out in PACES:
                lines = more_comes(many, inn, out)
                self.assertEqual(rank_of(lines), len(lines) - 1)
                told = [fraction_of(worth) for row, worth in table(many, inn, out)]
                for line in lines:
                    self.assertEqual(sum(one * other for one, other in zip(line, told)), 0)
                times = [(row, worth.times(OUT)) for row, worth in table(many, inn, out)]
                self.assertEqual(times_told(many, times, inn, out), OUT)
                self.assertIs(is_still(many, times, inn, out), True)
                times[-1] = (times[-1][0], times[-1][1].plus(ONE))
                self.assertIs(is_still(many, times, inn, out), False)

    def test_in_the_long_run_rows_are_met_so_often(self):
        for many in range(1, 6):
            for inn, out in PACES:
                chances = [row_chance(row, inn, out) for row in all_rows(many)]
                self.assertEqual(together(chances), ONE)
                self.assertEqual(together(weight(row, inn, out) for row in all_rows(many)), total(many, inn, out))


class TestHeaps(unittest.TestCase):

    def course(self, row, heap):
        """What is left of a row by the course that a heap is, each time at the first place."""
        signs = {(bead, free): sign for bead, free, sign in heap}
        letters = list(range(len(row)))
        steps = []
        while places_in("".join(row[letter] for letter in letters)):
            at = places_in("".join(row[letter] for letter in letters))[0]
            cell = letters[at], letters[at + 1]
            steps.append(cell + (signs[cell],))
            del letters[at + 1 if signs[cell] == "o" else at]
        self.assertEqual(sorted(steps), heap)
        return letters

    def test_each_heap_is_one_course(self):
        for row in FEW_ROWS:
            heaps = heaps_of(row)
            self.assertEqual(len(heaps), heaps_many(row))
            self.assertEqual(len({tuple(heap) for heap in heaps}), len(heaps))
            for number, heap in enumerate(heaps):
                self.assertIs(is_heap(row, heap), True)
                self.assertEqual((heap_at(row, number), heap_number(row, heap)), (heap, number))
                frees, beads = left_in(row, heap)
                self.assertEqual(self.course(row, heap), frees + beads)

    def test_heaps_come_to_the_weight(self):
        for row in FEW_ROWS:
            for inn, out in PACES:
                weights = [heap_weight(row, heap, inn, out) for heap in heaps_of(row)]
                self.assertEqual(together(weights), weight(row, inn, out))

    def test_the_greater_walk_goes_as_the_row_beneath_it_goes(self):
        for row in FEW_ROWS:
            for heap in heaps_of(row):
                walk, greater = Walk(row), HeapWalk(row, heap)
                for wall in walk.walls() + walk.walls():
                    if wall in walk.walls():
                        greater.step(wall)
                        self.assertEqual(greater.row(), walk.step(wall))
                        self.assertIs(is_heap(greater.row(), greater.heap()), True)

    def test_gone_back_in_just_one_way(self):
        for many in range(1, 6):
            pairs = [(row, heap, wall) for row in all_rows(many) for heap in heaps_of(row) for wall in walls_of(row)]
            came = {}
            for row, heap, wall in pairs:
                then, filled, to = heap_changed(row, heap, wall)
                self.assertIn(to, walls_of(then))
                came.setdefault((frozen(then, filled), to), []).append((row, heap, wall))
                self.assertEqual(heap_back(then, filled, to), (row, heap, wall))
            self.assertEqual(set(came), {(frozen(row, heap), wall) for row, heap, wall in pairs})
            self.assertEqual({len(ways) for ways in came.values()}, {1})

    def test_as_much_comes_to_each_heap_as_goes(self):
        for many in range(1, 6):
            for inn, out in PACES:
                coming, going = {}, {}
                for row, heap, worth in heap_table(many, inn, out):
                    for wall in walls_of(row):
                        then, filled, to = heap_changed(row, heap, wall)
                        moves = fraction_of(worth) * fraction_of(pace_of(row, wall, inn, out))
                        for found, pair in [(going, frozen(row, heap)), (coming, frozen(then, filled))]:
                            found[pair] = found.get(pair, 0) + moves
                self.assertEqual(coming, going)
                self.assertIs(is_heap_still(many, heap_table(many, inn, out), inn, out), True)

    def test_with_paces_of_one_each_heap_as_often(self):
        for many in range(1, 6):
            self.assertEqual({str(worth) for row, heap, worth in heap_table(many)}, {"1"})


class TestThrough(unittest.TestCase):

    def test_the_fraction_of_the_totals(self):
        for many in list(range(1, 9)) + [30]:
            for inn, out in PACES:
                found = through(many, inn, out)
                self.assertEqual(found, total(many - 1, inn, out).over(total(many, inn, out)))
                self.assertEqual(inn.times(ONE.less(bead_chance(many, 0, inn, out))), found)
                self.assertEqual(out.times(bead_chance(many, many - 1, inn, out)), found)
                for wall in range(1, many):
                    self.assertEqual(wall_chance(many, wall, inn, out), found)

    def test_by_chances_of_rows_over_each_wall(self):
        for many in range(1, 6):
            for inn, out in PACES:
                for wall in range(many + 1):
                    moves = [row_chance(row, inn, out).times(pace_of(row, wall, inn, out)) for row in all_rows(many)
                             if wall in walls_of(row)]
                    self.assertEqual(together(moves), through(many, inn, out))

    def test_how_full_places_are(self):
        for many in range(1, 6):
            for inn, out in PACES:
                chances = {row: row_chance(row, inn, out) for row in all_rows(many)}
                for one in range(many):
                    for other in range(many):
                        wanted = together(chance for row, chance in chances.items() if row[one] == row[other] == "o")
                        self.assertEqual(both_chance(many, one, other, inn, out), wanted)
                self.assertEqual(number_chances(many, inn, out),
                                 [together(chance for row, chance in chances.items() if row.count("o") == beads)
                                  for beads in range(many + 1)])
                self.assertEqual(beads_on(many, inn, out),
                                 together(chance.times(Part(row.count("o"))) for row, chance in chances.items()))


class TestPacesOfOne(unittest.TestCase):

    def test_the_total_is_the_number_of_ways(self):
        for many in range(1, 6):
            ways = {way_of(row, beneath_at(row, number)) for row in all_rows(many) for number in range(beneath_many(row))}
            self.assertTrue(all(is_way(way) and len(way) == 2 * many + 2 for way in ways))
            self.assertEqual(total(many), Part(len(ways)))
            self.assertEqual(len(ways), ways_many(many + 1))

    def test_as_many_rows_beneath_as_the_weight_tells(self):
        for row in FEW_ROWS:
            beneath = [other for other in all_rows(len(row)) if is_beneath(row, other)]
            self.assertEqual(weight(row), Part(len(beneath)))
            self.assertEqual([beneath_at(row, number) for number in range(beneath_many(row))], sorted(beneath))
            self.assertEqual(heaps_many(row), len(beneath))
            for other in beneath:
                self.assertEqual(rows_of(way_of(row, other)), (row, other))


class TestMirror(unittest.TestCase):

    def test_rows(self):
        for row in FEW_ROWS:
            many, other = len(row), mirrored(row)
            for inn, out in PACES:
                self.assertEqual(weight(other, out, inn), weight(row, inn, out))
                self.assertEqual(row_chance(other, out, inn), row_chance(row, inn, out))
                self.assertEqual([comes(other, out, inn), goes(other, out, inn)],
                                 [comes(row, inn, out), goes(row, inn, out)])
                turned = [(many - wall, pace, mirrored(behind)) for wall, pace, behind in changes(row, inn, out)]
                self.assertEqual(changes(other, out, inn), turned[::-1])
            self.assertEqual(ends_of(other), sorted((beads, frees, often) for frees, beads, often in ends_of(row)))
            self.assertEqual((heaps_many(other), beneath_many(other)), (heaps_many(row), beneath_many(row)))

    def test_totals_and_chances(self):
        for many in range(1, 9):
            for inn, out in PACES:
                self.assertEqual(total(many, out, inn), total(many, inn, out))
                self.assertEqual(through(many, out, inn), through(many, inn, out))
                self.assertEqual(number_chances(many, out, inn), number_chances(many, inn, out)[::-1])
                for place in range(many):
                    other = bead_chance(many, many - 1 - place, out, inn)
                    self.assertEqual(bead_chance(many, place, inn, out), ONE.less(other))

    def test_heaps_and_the_greater_walk(self):
        for row in FEW_ROWS:
            many, other = len(row), mirrored(row)
            for heap in heaps_of(row):
                turned = heap_mirrored(row, heap)
                for inn, out in PACES:
                    self.assertEqual(heap_weight(other, turned, out, inn), heap_weight(row, heap, inn, out))
                for wall in walls_of(row):
                    then, filled, to = heap_changed(row, heap, wall)
                    self.assertEqual(heap_changed(other, turned, many - wall),
                                     (mirrored(then), heap_mirrored(then, filled), many - to))

    def test_walks(self):
        chooser = random.Random(97)
        for row in FEW_ROWS:
            walk, other = Walk(row, INN, OUT), Walk(mirrored(row), OUT, INN)
            for turn in range(12):
                wall = chooser.choice(walk.walls())
                self.assertEqual(other.chance(len(row) - wall), walk.chance(wall))
                self.assertEqual(other.step(len(row) - wall), mirrored(walk.step(wall)))
            self.assertEqual(other.chances(), walk.chances())
            self.assertEqual(other.counts(), walk.counts()[::-1])

    def test_ways_turn_over_with_the_rows_beneath(self):
        for row in FEW_ROWS:
            for number in range(beneath_many(row)):
                way = way_of(row, beneath_at(row, number))
                self.assertIs(is_way(way_mirrored(way)), True)
                # The sign for the row and the one beneath it change places, for the way is turned about.
                upper, lower = rows_of(way_mirrored(way))
                self.assertEqual((mirrored(lower), mirrored(upper)), rows_of(way))


class TestRings(unittest.TestCase):

    def test_weights_are_how_many_lines_come_to_the_ring(self):
        for many in range(2, 7):
            came = {}
            for firsts in range(many + 1):
                for beads in range(firsts, many + 1):
                    for upper in lines_with(many, firsts):
                        for lower in lines_with(many, beads):
                            ring = ring_of(upper, lower)
                            came[ring] = came.get(ring, 0) + 1
            self.assertEqual(came, {ring: ring_weight(ring) for ring in all_rings(many)})

    def test_as_much_comes_as_goes(self):
        for many in range(2, 8):
            for ring in all_rings(many):
                self.assertEqual(ring_comes(ring), ring_goes(ring))
                self.assertEqual(ring_goes(ring), ring_weight(ring) * len(ring_changes(ring)))

    def test_who_does_not_see_the_second_kind_sees_all_rings_alike(self):
        for many in range(2, 7):
            seen = {}
            for ring in all_rings(many):
                told = (ring.replace("b", "."), ring.count("b"))
                seen[told] = seen.get(told, Part(0)).plus(ring_chance(ring))
            for (ring, seconds), chance in seen.items():
                self.assertEqual(chance, Part(1, comb(many, ring.count("a"))))

    def test_who_sees_both_kinds_alike_sees_all_rings_alike(self):
        for many in range(2, 7):
            seen = {}
            for ring in all_rings(many):
                told = (lower_of(ring), ring.count("a"))
                seen[told] = seen.get(told, Part(0)).plus(ring_chance(ring))
            for (lower, firsts), chance in seen.items():
                self.assertEqual(chance, Part(1, comb(many, lower.count("o"))))


HEAP = [(0, 1, "o"), (0, 3, "."), (2, 3, ".")]

# Each function that tells a list, or a tuple with one in it, and what it is asked with.
ASKED = [(walls_of, ("o.o.",)), (changes, ("o.o.", INN, OUT)), (places_in, ("o.o.",)), (ends_of, ("o.o.",)),
         (ahead_of, ("o.o.",)), (cells_of, ("o.o.",)), (left_in, ("o.o.", HEAP)), (heap_at, ("o.o.", 2)),
         (heaps_of, ("o.o.",)), (heap_changed, ("o.o.", HEAP, 1)), (heap_back, ("o.o.", HEAP, 1)),
         (number_chances, (3, INN, OUT)), (heap_mirrored, ("o.o.", HEAP)), (table, (2, INN, OUT)),
         (heap_table, (2, INN, OUT)), (ring_changes, ("ab.",)), (Walk("o.o.").walls, ()), (HeapWalk("o.o.", HEAP).heap, ())]


def spoilt(thing):
    """Change all lists within a thing, however deep, and the thing itself."""
    for each in list(thing):
        if isinstance(each, (list, tuple)):
            spoilt(each)
    if isinstance(thing, list):
        thing.append("spoilt")
        thing.insert(0, None)


class TestLists(unittest.TestCase):

    def test_every_told_list_is_the_askers_own(self):
        for ask, given in ASKED:
            with self.subTest(ask=ask.__name__):
                before = copy.deepcopy(given)
                one, other = ask(*given), ask(*given)
                kept = copy.deepcopy(other)
                self.assertEqual(one, kept)
                spoilt(one)
                self.assertEqual(other, kept)
                self.assertEqual(given, before)
                spoilt(other)
                self.assertEqual(ask(*given), kept)

    def test_what_was_handed_in_may_be_changed_later(self):
        for ask, given in ASKED:
            with self.subTest(ask=ask.__name__):
                handed = copy.deepcopy(given)
                found = ask(*handed)
                kept = copy.deepcopy(found)
                spoilt(handed)
                self.assertEqual(found, kept)
                self.assertEqual(ask(*given), kept)

    def test_objects_keep_no_list_that_was_told_or_handed_in(self):
        heap = list(HEAP)
        walk = HeapWalk("o.o.", heap)
        spoilt(heap)
        self.assertEqual(walk.heap(), HEAP)
        spoilt(walk.heap())
        spoilt(walk.done())
        self.assertEqual((walk.heap(), walk.done()), (HEAP, []))


if __name__ == "__main__":
    unittest.main()
