"""Things that the tests hand in where they are not allowed, and what several tests need."""

from fractions import Fraction

from hopline.errors import NoPace
from hopline.parts import Part


class Odd:
    """A thing of a kind that the program doesn't know."""


class EqualToAll:
    """A thing that says of itself that it is equal to anything."""

    def __eq__(self, other):
        return True

    def __hash__(self):
        return hash("")


# Each call makes new ones, so that no test hangs on what another one did.
def no_whole_numbers():
    return [True, False, None, "", "1", "o", b"1", [], [1], (), (1,), {}, {1: 2}, {1}, frozenset(), 1.0, 0.5, 1j,
            float("nan"), Part(1), Part(0), Part(1, 2), int, len, Odd, Odd(), EqualToAll(), range(3), object()]


def no_texts():
    return [True, False, None, 0, 1, -1, 1.0, b"o", b"1", bytearray(b"o"), [], ["o"], ["o", "."], ("o",), {}, {"o": 1},
            {"o"}, Part(1), str, len, Odd(), EqualToAll(), object()]


def no_paces():
    return [True, False, 0, 1, -1, 2, 1.5, "", "1", "1/2", b"1", [], [Part(1)], (1, 2), (Part(1),), {}, set(), Part,
            Part(0), Part(-1), Part(-1, 2), Part(3, -4), Odd(), object()]


def no_rows():
    return no_texts() + ["", "o" * 31, "." * 31, "o." * 16, "x", "oxo", "O", "0", "o o", " ", " o", "o ", "o\n", "\n",
                         "o.\n", "\no", "o\t", "o,", "o.o.a", "o" * 30 + "\n"]


def no_words():
    return [thing for thing in no_rows() if not (isinstance(thing, str) and thing == "")]


def fraction_of(part):
    """A Part's fraction, for reckoning by Python's own fractions; of None, as a pace, that of 1."""
    return Fraction(1) if part is None else Fraction(part.top, part.bottom)


def part_of(fraction):
    return Part(fraction.numerator, fraction.denominator)


class Alike:
    """A thing that has all fields of another one, but is not of its kind."""

    def __init__(self, other):
        self.__dict__.update(vars(other))


def check_unlike(test, one, others):
    """Check that one is equal to none of the others, by both signs and from both sides."""
    for other in others:
        with test.subTest(one=repr(one), other=repr(other)):
            test.assertIs(one == other, False)
            test.assertIs(other == one, False)
            test.assertIs(one != other, True)
            test.assertIs(other != one, True)


def check_alike(test, one, other):
    """Check that both are equal, by both signs, from both sides, and in lists."""
    test.assertIs(one == other, True)
    test.assertIs(other == one, True)
    test.assertIs(one != other, False)
    test.assertIs(other != one, False)
    test.assertEqual([0, one], [0, other])
    test.assertIn(one, [None, other])
    test.assertEqual(["x", other].index(one), 1)


def no_heaps():
    """Things that are no heap of any row."""
    return [thing for thing in no_whole_numbers() + no_texts() if not (isinstance(thing, list) and not thing)
            and thing is not None] + [
        0, 7, "o.", ((0, 1, "o"),), {(0, 1): "o"}, {(0, 1, "o")}, [None], [True], [[]], [()], [(0,)], [(0, 1)], ["0 1 o"],
        [(0, 1, "o", "o")], [(0, 1, "x")], [(0, 1, "O")], [(0, 1, "")], [(0, 1, "oo")], [(0, 1, "o.")], [(0, 1, None)],
        [(0, 1, 0)], [(0, 1, b"o")], [(0, 1, ["o"])], [(0, 1, EqualToAll())], [(EqualToAll(), 1, "o")],
        [(0, EqualToAll(), "o")], [[0, 1, "o"]], [(False, 1, "o")], [(0, True, "o")], [(False, True, "o")],
        [("0", 1, "o")], [(0, "1", "o")], [(None, 1, "o")], [(0, None, "o")], [("o", 0, 1)], [(1, 0, "o")],
        [(0, 0, "o")], [(-1, 0, "o")], [(-1, 1, "o")], [(0, 30, "o")], [(0, 1000, "o")], [(30, 31, ".")],
        [(10 ** 50, 10 ** 50 + 1, "o")], [(-2, -1, ".")], [(0, 1, "o"), None], [(0, 1, "o"), [0, 2, "."]],
        [(0, 1, "o"), (0, 1, "o")], [(0, 1, "o"), (0, 1, ".")]]


def looked_at(act):
    """The names of the paces that act looks at, where both are refused."""
    seen = []

    class Watched(Part):
        def __init__(self, name):
            Part.__init__(self, -1)
            self.name = name

        def __getattribute__(self, field):
            if field in ("top", "bottom"):
                seen.append(object.__getattribute__(self, "name"))
            return object.__getattribute__(self, field)

    inn, out = Watched("inn"), Watched("out")
    del seen[:]
    try:
        act(inn, out)
    except NoPace:
        return set(seen)
    return None


def check_pace_arguments(test, ask):
    """Check that paces are handed in by place, by name, one of them, as None, or left out; ask takes paces only."""
    one, inn, out = Part(1), Part(2, 3), Part(5, 7)
    for found, wanted in [
            (ask(), ask(one, one)), (ask(None), ask(one, one)), (ask(None, None), ask(one, one)),
            (ask(inn=None), ask(one, one)), (ask(out=None), ask(one, one)), (ask(inn), ask(inn, one)),
            (ask(inn=inn), ask(inn, one)), (ask(inn, None), ask(inn, one)), (ask(inn, out=None), ask(inn, one)),
            (ask(None, out), ask(one, out)), (ask(out=out), ask(one, out)), (ask(inn=None, out=out), ask(one, out)),
            (ask(out=out, inn=inn), ask(inn, out)), (ask(inn, out=out), ask(inn, out))]:
        test.assertIsInstance(found, Part)
        test.assertEqual(found, wanted)


def check_no_paces(test, ask):
    """Check that what are no paces is refused with NoPace, inn looked at first; ask takes paces only."""
    inn, out = Part(2, 3), Part(5, 7)
    for thing in no_paces():
        with test.subTest(thing=repr(thing)):
            for call in [lambda: ask(thing), lambda: ask(thing, out), lambda: ask(inn, thing), lambda: ask(inn=thing),
                         lambda: ask(out=thing), lambda: ask(None, thing), lambda: ask(thing, thing)]:
                with test.assertRaises(NoPace):
                    call()
    test.assertEqual(looked_at(ask), {"inn"})
