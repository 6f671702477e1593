"""Whole tables of the weights of heaps, for rows of few places."""

from hopline.courses import heaps_of
from hopline.heaps import heap_weight, is_heap
from hopline.paces import paces_from
from hopline.parts import need_number
from hopline.tables import all_rows, is_above_nought, times_between

MOST_IN_HEAP_TABLE = 5


def heap_table(many, inn=None, out=None):
    """Tell the table of heaps: tuples (row, heap, weight) for all rows of so many places and all heaps of each."""
    need_number(many, 1, MOST_IN_HEAP_TABLE)
    first, last = paces_from(inn, out)
    return [(row, heap, heap_weight(row, heap, first, last)) for row in all_rows(many) for heap in heaps_of(row)]


def is_heap_line(thing, row, heap):
    """Tell whether it is a tuple of this row, this heap of it, and a weight."""
    if not isinstance(thing, tuple) or len(thing) != 3:
        return False
    found, filled, worth = thing
    # A heap has whole numbers only, while True and False are equal to some.
    return (isinstance(found, str) and found == row and is_heap(row, filled) and filled == heap
            and is_above_nought(worth))


def is_heap_table(thing, told):
    """Tell whether it is a table of the same rows and heaps as the told one, whatever the weights are."""
    if not isinstance(thing, list) or len(thing) != len(told):
        return False
    return all([is_heap_line(line, row, heap) for line, (row, heap, worth) in zip(thing, told)])


def is_heap_still(many, thing, inn=None, out=None):
    """Tell whether it is a table of heaps by which, in the greater walk, to each heap as much comes as goes.

    From each heap the greater walk leads to each other one, so that no weights are still but the told ones and their
    multiples.
    """
    told = heap_table(many, inn, out)
    if not is_heap_table(thing, told):
        return False
    weights = [worth for row, heap, worth in told]
    return times_between([worth for row, heap, worth in thing], weights) is not None
