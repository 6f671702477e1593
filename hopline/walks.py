"""Walks: rows that are changed step by step."""

from hopline.errors import NoStep, NoWall
from hopline.paces import pace_of, pace_of_all, paces_from
from hopline.parts import Part, is_whole
from hopline.rows import changed, need_row, walls_of


class Walk:
    """A row with its paces, changed at open walls, and the steps that led to it."""

    def __init__(self, row, inn=None, out=None):
        need_row(row)
        self.inn, self.out = paces_from(inn, out)
        self.signs = row
        # Each step is a tuple: its wall, and the row ahead of it, to which undoing goes back.
        self.steps = []
        self.product = Part(1)

    def step(self, wall):
        """Change the row at an open wall, and tell it."""
        behind = changed(self.signs, wall)
        self.product = self.product.times(self.chance(wall))
        self.steps.append((wall, self.signs))
        self.signs = behind
        return behind

    def undo(self):
        """Undo the last step that isn't undone, and tell the row."""
        if not self.steps:
            raise NoStep("there is no step to undo")
        wall, self.signs = self.steps.pop()
        self.product = self.product.over(self.chance(wall))
        return self.signs

    def row(self):
        """Tell the row as it is now."""
        return self.signs

    def walls(self):
        """Tell the open walls, rising."""
        return walls_of(self.signs)

    def done(self):
        """Tell the walls of all steps not undone, in order."""
        return [wall for wall, ahead in self.steps]

    def counts(self):
        """Tell how many beads came in, hopped, went out by the steps not undone."""
        walls = self.done()
        came = walls.count(0)
        went = walls.count(len(self.signs))
        return came, len(walls) - came - went, went

    def chance(self, wall):
        """Tell the chance that the next step is at this wall, the Part of 0 where it is shut."""
        if not is_whole(wall) or wall < 0 or wall > len(self.signs):
            raise NoWall(wall)
        if wall not in walls_of(self.signs):
            return Part(0)
        return pace_of(self.signs, wall, self.inn, self.out).over(pace_of_all(self.signs, self.inn, self.out))

    def chances(self):
        """Tell the product of the chances that the steps not undone had when they were done."""
        return self.product

    def twin(self):
        """Tell a Walk that is as this one is now, its steps too, and goes on by itself."""
        other = Walk(self.signs, self.inn, self.out)
        other.steps = list(self.steps)
        other.product = self.product
        return other

    def __eq__(self, other):
        return (isinstance(other, Walk) and self.signs == other.signs
                and self.inn == other.inn and self.out == other.out)

    def __len__(self):
        return len(self.steps)

    def __str__(self):
        return f"{self.signs}"

    def __repr__(self):
        return f"Walk({self.signs!r}, {self.inn!r}, {self.out!r})"
