"""Whole tables of weights, for rows of few places."""

from hopline.paces import paces_from
from hopline.parts import Part, need_number
from hopline.rows import row_at
from hopline.weights import weight

MOST_IN_TABLE = 8


def all_rows(many):
    """Tell all rows of so many places, by their numbers."""
    return [row_at(many, number) for number in range(1 << many)]


def table(many, inn=None, out=None):
    """Tell the table of weights: tuples (row, weight) for all rows of so many places."""
    need_number(many, 1, MOST_IN_TABLE)
    first, last = paces_from(inn, out)
    return [(row, weight(row, first, last)) for row in all_rows(many)]


def is_above_nought(thing):
    """Tell whether it is a Part above 0."""
    return isinstance(thing, Part) and thing.top > 0


def is_line(thing, row):
    """Tell whether it is a tuple of this row and a weight."""
    if not isinstance(thing, tuple) or len(thing) != 2:
        return False
    found, worth = thing
    return isinstance(found, str) and found == row and is_above_nought(worth)


def is_table(thing, rows):
    """Tell whether it is a table of these rows, whatever the weights are."""
    if not isinstance(thing, list) or len(thing) != len(rows):
        return False
    return all([is_line(line, row) for line, row in zip(thing, rows)])


def times_between(found, told):
    """Tell the Part by which all told weights come to the found ones, None where there is none."""
    times = found[0].over(told[0])
    if all([one == other.times(times) for one, other in zip(found, told)]):
        return times
    return None


def times_told(many, thing, inn=None, out=None):
    """Tell by what Part above 0 the told table comes to this still one, None where it is no still one."""
    told = table(many, inn, out)
    if not is_table(thing, [row for row, worth in told]):
        return None
    return times_between([worth for row, worth in thing], [worth for row, worth in told])


def is_still(many, thing, inn=None, out=None):
    """Tell whether it is a table by whose weights at each row as much comes as goes.

    From each row changes lead to each other one, so that no weights are still but the told ones and their multiples.
    """
    return times_told(many, thing, inn, out) is not None
