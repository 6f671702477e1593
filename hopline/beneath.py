"""Rows beneath a row, and their numbers."""

from hopline.errors import NoRow
from hopline.parts import need_number
from hopline.rows import BEAD, FREE, is_row, need_row


def over_then(over, upper, lower):
    """Tell how many beads of the row are over, behind a sign of it and the one beneath, where so many were over.

    Over are the beads of the row less the free places of the one beneath it: half of what both together have more
    beads than free places, for both have as many places.
    """
    beads = over + 1 if upper == BEAD else over
    return beads - 1 if lower == FREE else beads


def is_beneath(row, thing):
    """Tell whether it is a row beneath the row."""
    need_row(row)
    if not is_row(thing) or len(thing) != len(row):
        return False
    over = 0
    for upper, lower in zip(row, thing):
        over = over_then(over, upper, lower)
        if over < 0:
            return False
    return over == 0


def need_beneath(row, thing):
    """Refuse what is no row, then what is none beneath it."""
    if not is_beneath(row, thing):
        raise NoRow("no row beneath this row")


def many_with(behind, over, upper, lower):
    """Tell how many go on with this sign beneath, by the counts behind it."""
    then = over_then(over, upper, lower)
    return behind[then] if then >= 0 else 0


def counts_beneath(row):
    """Tell, for each place and for the end, by the number of beads over there, how many rows beneath go on."""
    counts = [[1] + [0] * len(row)]
    for place in reversed(range(len(row))):
        behind = counts[-1]
        upper = row[place]
        counts.append([many_with(behind, over, upper, FREE) + many_with(behind, over, upper, BEAD)
                       for over in range(place + 1)])
    return counts[::-1]


def beneath_many(row):
    """Tell how many rows are beneath a row."""
    need_row(row)
    return counts_beneath(row)[0][0]


def beneath_at(row, number):
    """Tell the row beneath a row that has this number, as Python sorts texts."""
    need_row(row)
    counts = counts_beneath(row)
    need_number(number, 0, counts[0][0] - 1)
    signs = []
    rest = number
    over = 0
    for place, upper in enumerate(row):
        # A free place is sorted ahead of a bead.
        with_free = many_with(counts[place + 1], over, upper, FREE)
        lower = FREE if rest < with_free else BEAD
        if lower == BEAD:
            rest -= with_free
        signs.append(lower)
        over = over_then(over, upper, lower)
    return "".join(signs)


def beneath_number(row, other):
    """Tell the number of a row beneath a row."""
    need_beneath(row, other)
    counts = counts_beneath(row)
    number = 0
    over = 0
    for place, (upper, lower) in enumerate(zip(row, other)):
        if lower == BEAD:
            number += many_with(counts[place + 1], over, upper, FREE)
        over = over_then(over, upper, lower)
    return number
