"""How many upper lines there are, and how many come to a ring."""

FIRST = "a"
SECOND = "b"
NONE = "."


def choices(many, some):
    """Tell how many lines of so many places have just some beads."""
    result = 1
    for turn in range(some):
        # Each is the one ahead of it times this fraction, so that nothing is left over.
        result = result * (many - turn) // (turn + 1)
    return result


def with_upper(waiting):
    """Tell, by the number of beads that still go on, how often so many do, one place farther, with a bead or none."""
    return [one + other for one, other in zip(waiting + [0], [0] + waiting)]


def past(waiting, sign):
    """Tell, by the number of beads that still go on, how often so many do, behind a place with this sign."""
    if sign == SECOND:
        # No bead goes to it: so none stands above it, and none goes on there.
        return waiting[:1]
    beads = with_upper(waiting)
    return beads[1:] if sign == FIRST else beads


def uppers_many(ring):
    """Tell how many upper lines come to a ring, with the lower line that has beads at its a and b."""
    if SECOND not in ring:
        return choices(len(ring), ring.count(FIRST))
    # Past a bead of the second kind no bead goes: so, from one of them to the left, the ring is gone round once.
    start = ring.index(SECOND)
    waiting = [1]
    for sign in reversed(ring[start:] + ring[:start]):
        waiting = past(waiting, sign)
    return waiting[0]
