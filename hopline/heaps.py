"""Heaps: the cells of a row, filled with signs as courses of shortening fill them."""

from hopline.errors import NoHeap
from hopline.paces import paces_from
from hopline.parts import Part, is_whole
from hopline.rows import BEAD, FREE, OTHER_SIGN, need_row


def cells_of(row):
    """Tell the cells of a row, sorted: tuples (bead, free), the free place behind the bead."""
    need_row(row)
    beads = [place for place, sign in enumerate(row) if sign == BEAD]
    frees = [place for place, sign in enumerate(row) if sign == FREE]
    return [(bead, free) for bead in beads for free in frees if bead < free]


def is_filled(thing):
    """Tell whether it is a tuple (bead, free, sign), whatever cell that is."""
    if not isinstance(thing, tuple) or len(thing) != 3:
        return False
    bead, free, sign = thing
    return is_whole(bead) and is_whole(free) and isinstance(sign, str) and sign in OTHER_SIGN


def due_cells(row, filled):
    """Tell the cells that are to have a sign, sorted, by the sorted tuples of those that have one."""
    nearest_bead = {}
    nearest_free = {}
    for bead, free, sign in filled:
        # They are sorted: so the last bead is the nearest of the free place, the first free place that of the bead.
        if sign == BEAD:
            nearest_bead[free] = bead
        else:
            nearest_free.setdefault(bead, free)
    return [(bead, free) for bead, free in cells_of(row)
            if bead >= nearest_bead.get(free, bead) and free <= nearest_free.get(bead, free)]


def is_heap(row, thing):
    """Tell whether it is a heap of the row."""
    need_row(row)
    if not isinstance(thing, list) or not all([is_filled(each) for each in thing]):
        return False
    # Cells that are due are sorted, none twice; so what is like them is so, too.
    return [(bead, free) for bead, free, sign in thing] == due_cells(row, thing)


def need_heap(row, thing):
    """Refuse what is no row, then what is no heap of it."""
    if not is_heap(row, thing):
        raise NoHeap("no heap of this row")


def left_in(row, heap):
    """Tell the free places that are left and the beads that are left, two rising lists."""
    need_heap(row, heap)
    used = [free if sign == BEAD else bead for bead, free, sign in heap]
    left = [place for place in range(len(row)) if place not in used]
    return [place for place in left if row[place] == FREE], [place for place in left if row[place] == BEAD]


def heap_weight(row, heap, inn=None, out=None):
    """Tell the weight of a heap: 1 by inn for each free place that is left, and by out for each bead."""
    frees, beads = left_in(row, heap)
    first, last = paces_from(inn, out)
    return Part(1).over(first.raised(len(frees)).times(last.raised(len(beads))))
