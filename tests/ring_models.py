"""Rings and lines as the document's words tell them, for the tests to hold the program against."""

import random
from itertools import combinations, product

from tests.things import no_texts


def all_rings(many):
    """All rings of so many places."""
    return ["".join(signs) for signs in product("ab.", repeat=many)]


def chance_rings(many, places, seed):
    """So many rings of so many places, always the same ones."""
    chooser = random.Random(seed)
    return ["".join(chooser.choice("ab.") for place in range(places)) for turn in range(many)]


FEW_RINGS = [ring for many in range(2, 6) for ring in all_rings(many)]
LONG_RINGS = ["a" * 12, "b" * 12, "." * 12, "ab" * 6, "a." * 6, "b." * 6, "ab." * 4, "a.b" * 4, "aaaabbbb....",
              "....bbbbaaaa", "aaaaaab.....", "b.aaaa......", "......aaaaab", "a...........", "b...........",
              "aaaaa.b.aaaa", "a..b...a.b.a"] + chance_rings(12, 12, 53)


def no_rings():
    return no_texts() + ["", "a", "b", ".", "x", "ab" * 6 + ".", "a" * 13, "." * 14, "o.", "oo", "abo", "ab ", " ab", "a b",
                         "AB", "aB.", "ab\n", "\nab", "a\tb", "a,b", "a-b", "12", "a" * 12 + "\n"]


def beads_in(line):
    return [place for place, sign in enumerate(line) if sign == "o"]


def ring_by_words(upper, lower, order):
    """The ring of two lines, the beads of the upper one going in this order, place by place to the left."""
    gone_to = []
    for place in order:
        while lower[place] != "o" or place in gone_to:
            place = place - 1 if place > 0 else len(lower) - 1
        gone_to.append(place)
    return "".join("a" if place in gone_to else "b" if sign == "o" else "." for place, sign in enumerate(lower))


def lower_of(ring):
    return ring.replace("a", "o").replace("b", "o")


def lines_with(many, beads):
    """All lines of so many places with so many beads."""
    return ["".join("o" if place in chosen else "." for place in range(many))
            for chosen in combinations(range(many), beads)]


def weight_by_lines(ring):
    """How many upper lines come to a ring, each one gone through."""
    lower = lower_of(ring)
    return sum(ring_by_words(upper, lower, beads_in(upper)) == ring for upper in lines_with(len(ring), ring.count("a")))


def changes_by_words(ring):
    """The changes of a ring, place by place as point 28 tells them."""
    found = []
    for place in range(len(ring)):
        behind = 0 if place == len(ring) - 1 else place + 1
        if (ring[place], ring[behind]) in [("a", "b"), ("a", "."), ("b", ".")]:
            signs = list(ring)
            signs[place], signs[behind] = ring[behind], ring[place]
            found.append((place, "".join(signs)))
    return found
