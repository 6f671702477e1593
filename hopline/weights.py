"""Weights of rows, and what comes to a row and goes from it."""

from hopline.paces import pace_of, pace_of_all, paces_from
from hopline.parts import Part, power
from hopline.rows import BEAD, FREE, changed, exchanged, need_row, walls_of
from hopline.words import ends_of


def share(pace, many, most):
    """Tell the top of 1 by the pace raised so many times, over the pace's top raised the most times."""
    return power(pace.bottom, many) * power(pace.top, most - many)


def weight(row, inn=None, out=None):
    """Tell the weight of a row: the sum over its ends, by the paces raised."""
    need_row(row)
    first, last = paces_from(inn, out)
    most_frees = row.count(FREE)
    most_beads = row.count(BEAD)
    # Over one bottom for all ends, so that only once a common divisor is looked for.
    top = 0
    for frees, beads, many in ends_of(row):
        top += many * share(first, frees, most_frees) * share(last, beads, most_beads)
    return Part(top, power(first.top, most_frees) * power(last.top, most_beads))


def ahead_of(row):
    """Tell the rows from which a change leads to this one: tuples (wall, row), by rising walls."""
    need_row(row)
    # A change that is gone back is a change, too, where beads and free places are exchanged.
    other = exchanged(row)
    return [(wall, exchanged(changed(other, wall))) for wall in walls_of(other)]


def comes(row, inn=None, out=None):
    """Tell what comes to a row: the weights of the rows ahead of it, each times the pace of its change."""
    result = Part(0)
    # There is always a row ahead, so its weight looks at the paces, inn first.
    for wall, ahead in ahead_of(row):
        result = result.plus(weight(ahead, inn, out).times(pace_of(ahead, wall, inn, out)))
    return result


def goes(row, inn=None, out=None):
    """Tell what goes from a row: its weight times the sum of the paces of its open walls."""
    return weight(row, inn, out).times(pace_of_all(row, inn, out))
