"""Totals of the weights of all rows of so many places, what goes through, and how often a row is met."""

from hopline.paces import paces_from
from hopline.parts import Part, need_number, power
from hopline.weights import share, weight

MOST_IN_TOTAL = 40


def often_by_signs(many):
    """Tell, by the number of signs left, how often all words of so many signs together come to each end of so many.

    All ends with as many signs come alike often, however many of these are beads: for one sign more, a bead and a
    free place in turn, behind all ends of k signs each once, comes to all ends of 1, 2, to k + 1 signs each once.
    """
    often = [1]
    for turn in range(many):
        often = [0] + [sum(often[signs:]) for signs in range(len(often))]
    return often


def all_ends(many):
    """Tell the table of ends of all words of so many signs together: line by frees, item by beads."""
    often = often_by_signs(many)
    return [often[frees:] for frees in range(many + 1)]


def top_of(table, many, first, last):
    """Tell the weights of a table of ends together, as a top over one bottom: each pace's top raised so many times."""
    by_inn = [share(first, frees, many) for frees in range(many + 1)]
    by_out = [share(last, beads, many) for beads in range(many + 1)]
    # Line by line, for the shares may be long, while the counts are short.
    lines = [sum([often * by_out[beads] for beads, often in enumerate(line)]) for line in table]
    return sum([by_inn[frees] * worth for frees, worth in enumerate(lines)])


def total(many, inn=None, out=None):
    """Tell the sum of the weights of all rows of so many places."""
    need_number(many, 0, MOST_IN_TOTAL)
    first, last = paces_from(inn, out)
    return Part(top_of(all_ends(many), many, first, last), power(first.top, many) * power(last.top, many))


def through(many, inn=None, out=None):
    """Tell what goes through rows of so many places in the long run."""
    need_number(many, 1, MOST_IN_TOTAL)
    return total(many - 1, inn, out).over(total(many, inn, out))


def row_chance(row, inn=None, out=None):
    """Tell how often a row is met in the long run: its weight by the total of as many places."""
    return weight(row, inn, out).over(total(len(row), inn, out))
