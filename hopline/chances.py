"""Chances of beads at places and about walls, and of numbers of beads, over all rows of so many places."""

from hopline.errors import NoPlace, NoWall
from hopline.paces import paces_from
from hopline.parts import Part, is_whole, need_number
from hopline.rows import BEAD, FREE, MOST_PLACES
from hopline.totals import all_ends, top_of
from hopline.words import with_bead, with_free


def need_place(thing, many):
    """Refuse what is none of so many places."""
    if not is_whole(thing) or thing < 0 or thing >= many:
        raise NoPlace("no place of so many")


def lines_together(one, other):
    """Tell the sums of two lists of numbers, item by item; where one ends, the other one goes on alone."""
    both = [first + second for first, second in zip(one, other)]
    return both + one[len(both):] + other[len(both):]


def tables_together(one, other):
    """Tell the sum of two tables of ends."""
    both = [lines_together(first, second) for first, second in zip(one, other)]
    return both + one[len(both):] + other[len(both):]


def with_sign(table, sign):
    """Tell the table of ends of words that have one sign more at their right: this one, or for None each in turn."""
    if sign == BEAD:
        return with_bead(table)
    if sign == FREE:
        return with_free(table)
    return tables_together(with_bead(table), with_free(table))


def ends_with(many, signs):
    """Tell the table of ends of all rows of so many places together that have these signs, told by their places."""
    table = [[1]]
    for place in range(many):
        table = with_sign(table, signs.get(place))
    return table


def ends_by_beads(many):
    """Tell, by the number of beads, the table of ends of all rows of so many places together that have so many."""
    tables = [[[1]]]
    for turn in range(many):
        # With one bead more none is without beads, and with a free place more none has beads only.
        one_more = [[]] + [with_bead(table) for table in tables]
        as_many = [with_free(table) for table in tables] + [[]]
        tables = [tables_together(one, other) for one, other in zip(one_more, as_many)]
    return tables


def chances_of(tables, many, first, last):
    """Tell the chance of all that is in a table of ends, for each of the tables."""
    # All weights stand over the same bottom, so it needs no look.
    every = top_of(all_ends(many), many, first, last)
    return [Part(top_of(table, many, first, last), every) for table in tables]


def chance_with(many, signs, inn, out):
    """Tell the chance of these signs, told by their places, over all rows of so many places."""
    first, last = paces_from(inn, out)
    chances = chances_of([ends_with(many, signs)], many, first, last)
    return chances[0]


def bead_chance(many, place, inn=None, out=None):
    """Tell the chance of a bead at a place of so many."""
    need_number(many, 1, MOST_PLACES)
    need_place(place, many)
    return chance_with(many, {place: BEAD}, inn, out)


def both_chance(many, one, other, inn=None, out=None):
    """Tell the chance of beads at two places of so many, which may be one."""
    need_number(many, 1, MOST_PLACES)
    need_place(one, many)
    need_place(other, many)
    return chance_with(many, {one: BEAD, other: BEAD}, inn, out)


def wall_chance(many, wall, inn=None, out=None):
    """Tell the chance of a bead ahead of a wall between two places and a free place behind it."""
    need_number(many, 1, MOST_PLACES)
    if not is_whole(wall) or wall < 1 or wall >= many:
        raise NoWall(wall)
    return chance_with(many, {wall - 1: BEAD, wall: FREE}, inn, out)


def beads_on(many, inn=None, out=None):
    """Tell how many beads are on the way: the sum of the chances of all places."""
    need_number(many, 1, MOST_PLACES)
    first, last = paces_from(inn, out)
    table = []
    for place in range(many):
        table = tables_together(table, ends_with(many, {place: BEAD}))
    chances = chances_of([table], many, first, last)
    return chances[0]


def number_chances(many, inn=None, out=None):
    """Tell the chances of all numbers of beads, from none to all places."""
    need_number(many, 1, MOST_PLACES)
    first, last = paces_from(inn, out)
    return chances_of(ends_by_beads(many), many, first, last)
