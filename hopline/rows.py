"""Rows of places, their numbers, their walls and the changes at these."""

from hopline.errors import NoRow, NoWall
from hopline.parts import is_whole

BEAD = "o"
FREE = "."
OTHER_SIGN = {"o": ".", ".": "o"}

MOST_PLACES = 30


def is_row(thing):
    """Tell whether it is a row: a text of 1 to 30 signs, each a bead or a free place."""
    if not isinstance(thing, str) or len(thing) < 1 or len(thing) > MOST_PLACES:
        return False
    return all([sign in OTHER_SIGN for sign in thing])


def need_row(thing):
    """Refuse what is no row."""
    if not is_row(thing):
        raise NoRow("a row has 1 to 30 signs, o or a point")


def row_number(row):
    """Tell a row's number: its figures by twos, 1 for a bead."""
    need_row(row)
    number = 0
    for sign in row:
        number = number * 2 + (1 if sign == BEAD else 0)
    return number


def row_at(many, number):
    """Tell the row of so many places that has this number."""
    if not is_whole(many) or many < 1 or many > MOST_PLACES:
        raise NoRow("a row has 1 to 30 places")
    if not is_whole(number) or number < 0 or number >= 1 << many:
        raise NoRow("no row of so many places has this number")
    return "".join([BEAD if (number >> (many - 1 - place)) & 1 else FREE for place in range(many)])


def exchanged(row):
    """Tell the row with beads and free places exchanged, each at its place."""
    return "".join([OTHER_SIGN[sign] for sign in row])


def mirrored(row):
    """Tell the row turned about, beads and free places exchanged."""
    need_row(row)
    return exchanged(row[::-1])


def with_ends(row):
    """Tell the row with a bead ahead of it and a free place behind it.

    So each open wall, the outer ones too, has a bead ahead of it and a free place behind it,
    and wall k stands ahead of sign k + 1.
    """
    return BEAD + row + FREE


def walls_of(row):
    """Tell the open walls of a row, rising."""
    need_row(row)
    signs = with_ends(row)
    return [wall for wall in range(len(row) + 1) if signs[wall:wall + 2] == BEAD + FREE]


def need_open(row, wall):
    """Refuse what is no open wall of the row."""
    walls = walls_of(row)
    if not is_whole(wall) or wall not in walls:
        raise NoWall(wall)


def changed(row, wall):
    """Tell the row behind a change at an open wall."""
    need_open(row, wall)
    signs = with_ends(row)
    behind = signs[:wall] + FREE + BEAD + signs[wall + 2:]
    return behind[1:-1]
