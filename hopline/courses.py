"""Courses of shortening a row, each of which is a heap, and their numbers."""

from hopline.errors import TooMany
from hopline.heaps import need_heap
from hopline.parts import need_number
from hopline.rows import BEAD, FREE, need_row

MOST_TOLD = 500


def counts_of(row):
    """Tell, for each place and for the end, by the number of beads left ahead of it, how many courses go on there.

    A course goes from the left: each free place uses up none, some or all of the beads left ahead of it,
    from the nearest on, and is itself used up by the next one, where one is left.
    """
    counts = [[1] * (len(row) + 1)]
    for sign in reversed(row):
        behind = counts[-1]
        if sign == BEAD:
            counts.append(behind[1:])
        else:
            counts.append([sum(behind[:beads + 1]) for beads in range(len(behind))])
    return counts[::-1]


def heaps_many(row):
    """Tell how many heaps a row has."""
    need_row(row)
    return counts_of(row)[0][0]


def heap_by(row, counts, number):
    """Tell the heap of a number, by the counts of the row."""
    heap = []
    beads = []
    rest = number
    for place, sign in enumerate(row):
        if sign == BEAD:
            beads.append(place)
            continue
        # All courses that leave this free place out now have lesser numbers than those that leave the bead out.
        while beads and rest >= counts[place + 1][len(beads)]:
            rest -= counts[place + 1][len(beads)]
            heap.append((beads.pop(), place, FREE))
        if beads:
            heap.append((beads[-1], place, BEAD))
    return sorted(heap)


def heap_at(row, number):
    """Tell the heap that has this number."""
    need_row(row)
    counts = counts_of(row)
    need_number(number, 0, counts[0][0] - 1)
    return heap_by(row, counts, number)


def heap_number(row, heap):
    """Tell the number of a heap."""
    need_heap(row, heap)
    counts = counts_of(row)
    users = [free for bead, free, sign in heap if sign == FREE]
    number = 0
    beads = 0
    for place, sign in enumerate(row):
        if sign == BEAD:
            beads += 1
            continue
        for turn in range(users.count(place)):
            number += counts[place + 1][beads]
            beads -= 1
    return number


def heaps_of(row):
    """Tell all heaps of a row, by their numbers, where they are not too many."""
    need_row(row)
    counts = counts_of(row)
    many = counts[0][0]
    if many > MOST_TOLD:
        raise TooMany("the row has more than 500 heaps")
    return [heap_by(row, counts, number) for number in range(many)]
