"""The greater walk: changes from heap to heap, and back."""

from hopline.heaps import need_heap
from hopline.rows import BEAD, FREE, changed, need_open
from hopline.weights import ahead_of


def block_start(row, place):
    """Tell the first place of the block that has this place."""
    return len(row[:place + 1].rstrip(row[place]))


def block_stop(row, place):
    """Tell the first place behind the block that has this place."""
    return len(row) - len(row[place:].lstrip(row[place]))


def sign_of(heap, wall):
    """Tell the sign of the cell about a wall between two places, which always has one, for none is nearer."""
    signs = [sign for bead, free, sign in heap if bead == wall - 1 and free == wall]
    return signs[0]


def letter_at(row, wall, sign):
    """Tell the place of the letter that is taken out or put in at a wall.

    At an outer wall there is one place only; elsewhere by the sign the free place behind it, or the bead ahead of it.
    """
    if wall == 0 or (wall < len(row) and sign == BEAD):
        return wall
    return wall - 1


def placed(place, taken, put):
    """Tell the place that a letter has then, where one is taken out and another one put in."""
    left = place - 1 if place > taken else place
    return left + 1 if left >= put else left


def moved(row, heap, wall, to, sign):
    """Tell the heap behind the taking out of the letter at one wall and the putting in of one at another."""
    taken = letter_at(row, wall, sign)
    put = letter_at(row, to, sign)
    result = [(placed(bead, taken, put), placed(free, taken, put), each)
              for bead, free, each in heap if taken not in (bead, free)]
    if 0 < to < len(row):
        result.append((to - 1, to, sign))
    return sorted(result)


def heap_changed(row, heap, wall):
    """Tell the row and the heap behind a change at an open wall, and the wall to which it comes."""
    need_heap(row, heap)
    behind = changed(row, wall)
    if wall == len(row) or (wall > 0 and sign_of(heap, wall) == BEAD):
        to = block_start(behind, wall - 1)
        return behind, moved(row, heap, wall, to, BEAD), to
    to = block_stop(behind, wall)
    return behind, moved(row, heap, wall, to, FREE), to


def heap_back(row, heap, wall):
    """Tell the row, the heap and the open wall from which a change comes to this row, heap and wall."""
    need_heap(row, heap)
    need_open(row, wall)
    # A letter was put in at one end of its block; the change was at the block's other end.
    if wall == 0 or (wall < len(row) and sign_of(heap, wall) == BEAD):
        start = block_stop(row, wall)
        sign = BEAD
    else:
        start = block_start(row, wall - 1)
        sign = FREE
    rows_ahead = dict(ahead_of(row))
    return rows_ahead[start], moved(row, heap, wall, start, sign), start
