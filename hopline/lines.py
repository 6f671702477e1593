"""Lines, upper and lower, and the rings to which they come."""

from hopline.errors import NoLines
from hopline.rings import LEAST_IN_RING, MOST_IN_RING, need_ring
from hopline.rows import BEAD, is_row
from hopline.uppers import FIRST, NONE, SECOND, uppers_many


def are_lines(upper, lower):
    """Tell whether they are lines: rows of as many places, 2 to 12, the upper one with no more beads."""
    if not is_row(upper) or not is_row(lower) or len(upper) != len(lower):
        return False
    return LEAST_IN_RING <= len(upper) <= MOST_IN_RING and upper.count(BEAD) <= lower.count(BEAD)


def first_to_the_left(signs, place):
    """Tell the first place, from this one on to the left, with a bead to which none has gone yet."""
    many = len(signs)
    round_to_the_left = [(place - steps) % many for steps in range(many)]
    waiting = [at for at in round_to_the_left if signs[at] == SECOND]
    return waiting[0]


def ring_of(upper, lower):
    """Tell the ring of two lines."""
    if not are_lines(upper, lower):
        raise NoLines("lines are two rows of 2 to 12 places, the upper one with no more beads")
    signs = [SECOND if sign == BEAD else NONE for sign in lower]
    for place, sign in enumerate(upper):
        if sign == BEAD:
            signs[first_to_the_left(signs, place)] = FIRST
    return "".join(signs)


def ring_weight(ring):
    """Tell the weight of a ring: how many upper lines come to it."""
    need_ring(ring)
    return uppers_many(ring)
