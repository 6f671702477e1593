"""The refusals of the program, one class for each kind."""


class HopError(ValueError):
    """What most refusals have above them."""


class NoNumber(HopError):
    """No number, or none that is allowed there."""


class NoRow(HopError):
    """No row of beads and free places."""


class NoPace(HopError):
    """No Part above 0."""


class NoStep(HopError):
    """No step that could be undone."""


class NoWord(HopError):
    """No word, or none of the sum."""


class NoPlace(HopError):
    """No place of the row, or none that is allowed there."""


class NoHeap(HopError):
    """No heap of the row."""


class TooMany(HopError):
    """More than are told or kept."""


class NoWay(HopError):
    """No way that never goes below."""


class NoLines(HopError):
    """No two lines, upper and lower."""


class NoRing(HopError):
    """No ring of beads of two kinds."""


class BadRow(HopError):
    """No row of words that the desk knows."""


class ByNought(ZeroDivisionError):
    """A division by nought."""


class NoWall(IndexError):
    """No wall of the row, or none that is open; wall is what was handed in."""

    def __init__(self, wall):
        IndexError.__init__(self, "no such wall, or it is shut")
        self.wall = wall


class NoName(KeyError):
    """A name by which nothing is kept; name is what was handed in."""

    def __init__(self, name):
        KeyError.__init__(self, "nothing is kept by this name")
        self.name = name
