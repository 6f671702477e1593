"""Walks from heap to heap, which can be gone back."""

from hopline.courses import heap_at
from hopline.greater import heap_back, heap_changed
from hopline.heaps import need_heap


class HeapWalk:
    """A row with a heap of it, changed together at open walls, and the steps that were made."""

    def __init__(self, row, heap=None):
        filled = heap_at(row, 0) if heap is None else heap
        need_heap(row, filled)
        self.signs = row
        self.filled = list(filled)
        self.steps = []

    def step(self, wall):
        """Change row and heap at an open wall, and tell the wall to which it came."""
        self.signs, self.filled, to = heap_changed(self.signs, self.filled, wall)
        self.steps.append(wall)
        return to

    def step_back(self, wall):
        """Go to the row and heap from which a change comes to these at an open wall; tell the wall of that change."""
        self.signs, self.filled, start = heap_back(self.signs, self.filled, wall)
        self.steps.append((wall,))
        return start

    def row(self):
        """Tell the row as it is now."""
        return self.signs

    def heap(self):
        """Tell the heap as it is now."""
        return list(self.filled)

    def done(self):
        """Tell the walls of all steps, in order, those of steps back as tuples (wall,)."""
        return list(self.steps)

    def __eq__(self, other):
        return isinstance(other, HeapWalk) and self.signs == other.signs and self.filled == other.filled

    def __len__(self):
        return len(self.steps)

    def __str__(self):
        return f"{self.signs}"
