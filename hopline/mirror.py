"""Heaps and ways seen in a mirror."""

from hopline.errors import NoWay
from hopline.heaps import need_heap
from hopline.rows import OTHER_SIGN
from hopline.ways import DOWN, UP, is_way


def heap_mirrored(row, heap):
    """Tell the heap of the row in the mirror that a heap of a row is there."""
    need_heap(row, heap)
    last = len(row) - 1
    return sorted([(last - free, last - bead, OTHER_SIGN[sign]) for bead, free, sign in heap])


def way_mirrored(way):
    """Tell the way turned about, each step exchanged."""
    if not is_way(way):
        raise NoWay("no way in the mirror of what is none")
    return "".join([DOWN if step == UP else UP for step in reversed(way)])
