"""Things that the tests hand in where they are not allowed."""

from hopline.parts import Part


class Odd:
    """A thing of a kind that the program doesn't know."""


# Each call makes new ones, so that no test hangs on what another one did.
def no_whole_numbers():
    return [True, False, None, "", "1", "o", b"1", [], [1], (), (1,), {}, {1: 2}, {1}, frozenset(), 1.0, 0.5, 1j,
            float("nan"), Part(1), Part(0), Part(1, 2), int, len, Odd, Odd(), range(3), object()]


def no_texts():
    return [True, False, None, 0, 1, -1, 1.0, b"o", b"1", bytearray(b"o"), [], ["o"], ["o", "."], ("o",), {}, {"o": 1},
            {"o"}, Part(1), str, len, Odd(), object()]


def no_paces():
    return [True, False, 0, 1, -1, 2, 1.5, "", "1", "1/2", b"1", [], [Part(1)], (1, 2), (Part(1),), {}, set(), Part,
            Part(0), Part(-1), Part(-1, 2), Part(3, -4), Odd(), object()]


def no_rows():
    return no_texts() + ["", "o" * 31, "." * 31, "o." * 16, "x", "oxo", "O", "0", "o o", " ", " o", "o ", "o\n", "\n",
                         "o.\n", "\no", "o\t", "o,", "o.o.a", "o" * 30 + "\n"]
