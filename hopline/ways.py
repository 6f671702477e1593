"""Ways of steps up and down that never go below, and the two rows of which they come."""

from hopline.beneath import need_beneath
from hopline.errors import NoWay
from hopline.parts import need_number

UP = "/"
DOWN = "-"
STEP_OF = {"o": "/", ".": "-"}
SIGN_OF = {"/": "o", "-": "."}

# Two steps for each place, one ahead of these and one behind: so many come of rows of 1 place and of 30 places.
LEAST_STEPS = 4
MOST_STEPS = 62

MOST_HALF_STEPS = 41


def is_way(thing):
    """Tell whether it is a way: a text of steps up and down, as many of both, that never goes below."""
    if not isinstance(thing, str):
        return False
    height = 0
    for step in thing:
        if step not in SIGN_OF:
            return False
        height = height + 1 if step == UP else height - 1
        if height < 0:
            return False
    return height == 0


def way_of(row, other):
    """Tell the way of a row and one beneath it."""
    need_beneath(row, other)
    steps = [STEP_OF[sign] for pair in zip(row, other) for sign in pair]
    return UP + "".join(steps) + DOWN


def rows_of(way):
    """Tell the row and the one beneath it of which a way comes."""
    if not is_way(way) or len(way) < LEAST_STEPS or len(way) > MOST_STEPS:
        raise NoWay("no way of 4 to 62 steps")
    signs = "".join([SIGN_OF[step] for step in way[1:-1]])
    return signs[::2], signs[1::2]


def ways_many(many):
    """Tell how many ways of twice so many steps there are."""
    need_number(many, 0, MOST_HALF_STEPS)
    result = 1
    for half in range(many):
        # Each number of ways is the one ahead of it times this fraction, so that nothing is left over.
        result = result * (4 * half + 2) // (half + 2)
    return result
