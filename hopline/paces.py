"""Paces: how fast beads come in, hop and go out."""

from hopline.errors import NoPace
from hopline.parts import Part
from hopline.rows import changed, need_row, walls_of


def pace_from(thing):
    """Tell the pace that was handed in, the Part of 1 for None."""
    if thing is None:
        return Part(1)
    if not isinstance(thing, Part) or thing.top < 1:
        raise NoPace("a pace is a Part above 0")
    return thing


def paces_from(inn, out):
    """Tell both paces that were handed in; inn is looked at first."""
    first = pace_from(inn)
    return first, pace_from(out)


def pace_of(row, wall, inn=None, out=None):
    """Tell the pace of a wall, whether the row has it or not."""
    need_row(row)
    first, last = paces_from(inn, out)
    if wall == 0:
        return first
    if wall == len(row):
        return last
    return Part(1)


def changes(row, inn=None, out=None):
    """Tell the changes of a row: tuples (wall, pace, row behind it), by rising walls."""
    walls = walls_of(row)
    return [(wall, pace_of(row, wall, inn, out), changed(row, wall)) for wall in walls]


def pace_of_all(row, inn, out):
    """Tell the sum of the paces of all open walls."""
    walls = walls_of(row)
    outer = [pace_of(row, wall, inn, out) for wall in (0, len(row)) if wall in walls]
    # Each open wall between two places has the Part of 1.
    result = Part(len(walls) - len(outer))
    for pace in outer:
        result = result.plus(pace)
    return result
