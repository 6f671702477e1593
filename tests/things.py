"""Things that the tests hand in where they are not allowed, and what several tests need."""

from fractions import Fraction

from hopline.parts import Part


class Odd:
    """A thing of a kind that the program doesn't know."""


class EqualToAll:
    """A thing that says of itself that it is equal to anything."""

    def __eq__(self, other):
        return True

    def __hash__(self):
        return hash("")


# Each call makes new ones, so that no test hangs on what another one did.
def no_whole_numbers():
    return [True, False, None, "", "1", "o", b"1", [], [1], (), (1,), {}, {1: 2}, {1}, frozenset(), 1.0, 0.5, 1j,
            float("nan"), Part(1), Part(0), Part(1, 2), int, len, Odd, Odd(), EqualToAll(), range(3), object()]


def no_texts():
    return [True, False, None, 0, 1, -1, 1.0, b"o", b"1", bytearray(b"o"), [], ["o"], ["o", "."], ("o",), {}, {"o": 1},
            {"o"}, Part(1), str, len, Odd(), EqualToAll(), object()]


def no_paces():
    return [True, False, 0, 1, -1, 2, 1.5, "", "1", "1/2", b"1", [], [Part(1)], (1, 2), (Part(1),), {}, set(), Part,
            Part(0), Part(-1), Part(-1, 2), Part(3, -4), Odd(), object()]


def no_rows():
    return no_texts() + ["", "o" * 31, "." * 31, "o." * 16, "x", "oxo", "O", "0", "o o", " ", " o", "o ", "o\n", "\n",
                         "o.\n", "\no", "o\t", "o,", "o.o.a", "o" * 30 + "\n"]


def no_words():
    return [thing for thing in no_rows() if not (isinstance(thing, str) and thing == "")]


def fraction_of(part):
    """A Part's fraction, for reckoning by Python's own fractions; of None, as a pace, that of 1."""
    return Fraction(1) if part is None else Fraction(part.top, part.bottom)


def part_of(fraction):
    return Part(fraction.numerator, fraction.denominator)


class Alike:
    """A thing that has all fields of another one, but is not of its kind."""

    def __init__(self, other):
        self.__dict__.update(vars(other))


def check_unlike(test, one, others):
    """Check that one is equal to none of the others, by both signs and from both sides."""
    for other in others:
        with test.subTest(one=repr(one), other=repr(other)):
            test.assertIs(one == other, False)
            test.assertIs(other == one, False)
            test.assertIs(one != other, True)
            test.assertIs(other != one, True)


def check_alike(test, one, other):
    """Check that both are equal, by both signs, from both sides, and in lists."""
    test.assertIs(one == other, True)
    test.assertIs(other == one, True)
    test.assertIs(one != other, False)
    test.assertIs(other != one, False)
    test.assertEqual([0, one], [0, other])
    test.assertIn(one, [None, other])
    test.assertEqual(["x", other].index(one), 1)
