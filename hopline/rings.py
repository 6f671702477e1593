"""Rings with beads of two kinds, their changes, and what comes to a ring and goes from it."""

from hopline.errors import NoRing
from hopline.parts import Part
from hopline.uppers import FIRST, SECOND, choices, uppers_many

LEAST_IN_RING = 2
MOST_IN_RING = 12

# How far above the others each sign stands.
RANK = {"a": 2, "b": 1, ".": 0}


def is_ring(thing):
    """Tell whether it is a ring: a text of 2 to 12 signs, beads of two kinds and free places."""
    if not isinstance(thing, str) or len(thing) < LEAST_IN_RING or len(thing) > MOST_IN_RING:
        return False
    return all([sign in RANK for sign in thing])


def need_ring(thing):
    """Refuse what is no ring."""
    if not is_ring(thing):
        raise NoRing("a ring has 2 to 12 signs, a, b or a point")


def place_behind(ring, place):
    """Tell the place behind a place: behind the last one comes place 0."""
    return (place + 1) % len(ring)


def rise_at(ring, place):
    """Tell how far the sign at a place stands above that at the next one."""
    return RANK[ring[place]] - RANK[ring[place_behind(ring, place)]]


def exchanged_at(ring, place):
    """Tell the ring with the signs at a place and at the next one exchanged."""
    signs = list(ring)
    other = place_behind(ring, place)
    signs[place], signs[other] = signs[other], signs[place]
    return "".join(signs)


def ring_changes(ring):
    """Tell the changes of a ring: tuples (place, ring behind it), by rising places."""
    need_ring(ring)
    return [(place, exchanged_at(ring, place)) for place in range(len(ring)) if rise_at(ring, place) > 0]


def ring_comes(ring):
    """Tell what comes to a ring: the weights of all rings from which a change leads to it."""
    need_ring(ring)
    return sum([uppers_many(exchanged_at(ring, place)) for place in range(len(ring)) if rise_at(ring, place) < 0])


def ring_goes(ring):
    """Tell what goes from a ring: its weight as often as it has changes."""
    changes = ring_changes(ring)
    return uppers_many(ring) * len(changes)


def ring_chance(ring):
    """Tell the chance of a ring among all with as many beads of each kind and as many places."""
    need_ring(ring)
    firsts = ring.count(FIRST)
    beads = firsts + ring.count(SECOND)
    return Part(uppers_many(ring), choices(len(ring), firsts) * choices(len(ring), beads))
