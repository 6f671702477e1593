"""Heaps as the document's words tell them, for the tests to hold the program against."""

import random
from itertools import groupby

from tests.test_rows import LONG_ROWS, changed_by_words, rows_of
from tests.test_words import chance_words

FEW_ROWS = [row for many in range(1, 7) for row in rows_of(many)]
LONG = LONG_ROWS + ["oo.." * 7 + "o.", "." + "o" * 14 + "." * 15, "ooo..." * 5] + chance_words(6, 30, 17)
MIDDLING = [row for many in range(8, 30, 3) for row in chance_words(2, many, many)]


def cells_by_words(row):
    return sorted((bead, free) for bead in range(len(row)) for free in range(len(row))
                  if row[bead] == "o" and row[free] == "." and free > bead)


def is_heap_by_words(row, heap):
    """Whether a list of tuples of a cell of the row and a sign each is a heap, as point 14 tells it."""
    signs = {(bead, free): sign for bead, free, sign in heap}
    if heap != sorted(heap) or len(signs) != len(heap):
        return False
    for bead, free in cells_by_words(row):
        nearer_bead = any(signs.get((other, free)) == "o" for other in range(bead + 1, len(row)))
        nearer_free = any(signs.get((bead, other)) == "." for other in range(free))
        if ((bead, free) in signs) != (not nearer_bead and not nearer_free):
            return False
    return all(cell in cells_by_words(row) for cell in signs)


def places_of_letters(row, letters):
    """At which of the letters that are left the word can be shortened."""
    return [at for at in range(len(letters) - 1) if row[letters[at]] == "o" and row[letters[at + 1]] == "."]


def heaps_by_courses(row):
    """All heaps of a row, by all courses of point 15, each shortening at the first place, the free place left out first."""
    def going_on(letters, heap):
        places = places_of_letters(row, letters)
        if not places:
            return [sorted(heap)]
        at = places[0]
        cell = (letters[at], letters[at + 1])
        without_free = going_on(letters[:at + 1] + letters[at + 2:], heap + [cell + ("o",)])
        return without_free + going_on(letters[:at] + letters[at + 1:], heap + [cell + (".",)])

    return going_on(list(range(len(row))), [])


def course_heap(row, chooser):
    """A heap of a row, by a course that shortens at any place, in any order; told is what is left, too."""
    letters, heap = list(range(len(row))), []
    while places_of_letters(row, letters):
        at = chooser.choice(places_of_letters(row, letters))
        sign = chooser.choice("o.")
        heap.append((letters[at], letters[at + 1], sign))
        del letters[at + 1 if sign == "o" else at]
    frees = [place for place in letters if row[place] == "."]
    beads = [place for place in letters if row[place] == "o"]
    return sorted(heap), frees, beads


def chance_heaps(row, many, seed):
    """So many heaps of a row, by courses in any order, always the same ones."""
    chooser = random.Random(seed)
    return [course_heap(row, chooser)[0] for turn in range(many)]


def left_by_words(row, heap):
    """The free places and the beads that are left, as point 14 tells them."""
    frees = [place for place in range(len(row)) if row[place] == "."
             and not any(free == place and sign == "o" for bead, free, sign in heap)]
    beads = [place for place in range(len(row)) if row[place] == "o"
             and not any(bead == place and sign == "." for bead, free, sign in heap)]
    return frees, beads


def block_with(row, place):
    """The first and the last place of the block that has this place."""
    start = 0
    for sign, stretch in groupby(row):
        stop = start + len(list(stretch))
        if start <= place < stop:
            return start, stop - 1
        start = stop
    raise AssertionError("no block has this place")


def pair_changed_by_words(row, heap, wall):
    """Row, heap and wall behind a change, letter by letter as point 16 tells it."""
    many = len(row)
    signs = {(bead, free): sign for bead, free, sign in heap}
    letters = list(range(many))
    behind = changed_by_words(row, wall)
    if wall == 0:
        taken, free_is_put = 0, False
    elif wall == many:
        taken, free_is_put = many - 1, True
    elif signs[wall - 1, wall] == "o":
        taken, free_is_put = wall, True
    else:
        taken, free_is_put = wall - 1, False
    letters.remove(taken)
    signs = {cell: sign for cell, sign in signs.items() if taken not in cell}
    if free_is_put:
        first, last = block_with(behind, wall - 1)
        letters.insert(first, "new")
        if first > 0:
            signs[letters[first - 1], "new"] = "o"
        to = first
    else:
        first, last = block_with(behind, wall)
        letters.insert(last, "new")
        if last < many - 1:
            signs["new", letters[last + 1]] = "."
        to = last + 1
    new_heap = sorted((letters.index(bead), letters.index(free), sign) for (bead, free), sign in signs.items())
    return behind, new_heap, to
