"""Words, their shortening, and the ends to which they come."""

from hopline.errors import NoPlace, NoWord
from hopline.parts import is_whole
from hopline.rows import BEAD, FREE, is_row


def is_word(thing):
    """Tell whether it is a word: a row, or the text without signs."""
    return is_row(thing) or (isinstance(thing, str) and thing == "")


def need_word(thing):
    """Refuse what is no word."""
    if not is_word(thing):
        raise NoWord("a word has at most 30 signs, o or a point")


def places_in(word):
    """Tell the places at which a word can be shortened, rising."""
    need_word(word)
    return [place for place in range(len(word)) if word[place:place + 2] == BEAD + FREE]


def shortened(word, place):
    """Tell the word without the free place behind this bead, and the one without the bead."""
    places = places_in(word)
    if not is_whole(place) or place not in places:
        raise NoPlace("the word can't be shortened there")
    return word[:place + 1] + word[place + 2:], word[:place] + word[place + 1:]


def with_bead(table):
    """Tell the table of ends of a word that has one bead more at its right."""
    return [[0] + line for line in table]


def with_free(table):
    """Tell the table of ends of a word that has one free place more at its right.

    Behind some beads a free place comes to itself, all beads gone, and to each number of beads from 1 to all,
    the free place gone: each once. So nothing of it hangs on how many courses there are.
    """
    heads = [0] + [sum(line) for line in table]
    tails = [[sum(line[beads:]) for beads in range(1, len(line))] for line in table] + [[]]
    return [[head] + tail for head, tail in zip(heads, tails)]


def ends_of(word):
    """Tell the ends of a word: sorted tuples (frees, beads, many), one for each word of its finished Sum."""
    need_word(word)
    # Line by frees, item by beads: how often the word of so many comes, for what was read of the word so far.
    table = [[1]]
    for sign in word:
        table = with_bead(table) if sign == BEAD else with_free(table)
    return [(frees, beads, many) for frees, line in enumerate(table) for beads, many in enumerate(line) if many > 0]
