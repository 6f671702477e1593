"""hopline.parts: points 4 and 5, and 2 as far as it speaks of Parts."""

import sys
import unittest
from fractions import Fraction
from math import gcd

from hopline.errors import ByNought, HopError, NoNumber
from hopline.parts import Part, is_whole, read_part

from tests.things import check_unlike, no_texts, no_whole_numbers

LONG = 123456789012345678901234567890
LONGER = 987654321098765432109876543210
SIXTY = 10 ** 59 + 7
NUMBERS = [0, 1, -1, 2, -2, 3, 4, 6, -6, 9, 12, 35, -100, 1024, LONG, -LONG, LONGER, 3 * LONG, SIXTY, -SIXTY]


def fractions_to_try():
    return [(top, bottom) for top in NUMBERS for bottom in NUMBERS if bottom]


def few_fractions():
    return [(0, 1), (1, 1), (-1, 1), (1, 2), (-1, 2), (2, 3), (-3, 4), (6, 4), (7, 1), (-12, 5), (1, LONG),
            (LONG, LONGER), (-LONGER, 7), (LONG * 2 + 1, LONGER * 4)]


def fields(part):
    return (part.top, part.bottom)


def fields_of(fraction):
    return (fraction.numerator, fraction.denominator)


class TestWhole(unittest.TestCase):

    def test_whole_numbers(self):
        for number in NUMBERS:
            self.assertIs(is_whole(number), True)
        self.assertIs(is_whole(thing=5), True)

    def test_what_is_none(self):
        for thing in no_whole_numbers():
            with self.subTest(thing=repr(thing)):
                self.assertIs(is_whole(thing), False)


class TestMakingParts(unittest.TestCase):

    def test_lowest_terms(self):
        for top, bottom in fractions_to_try():
            with self.subTest(top=top, bottom=bottom):
                part = Part(top, bottom)
                self.assertEqual(fields(part), fields_of(Fraction(top, bottom)))
                self.assertEqual(gcd(part.top, part.bottom), 1)
                self.assertGreaterEqual(part.bottom, 1)
                self.assertIs(type(part.top), int)
                self.assertIs(type(part.bottom), int)

    def test_named_examples(self):
        self.assertEqual(fields(Part(6, 8)), (3, 4))
        self.assertEqual(fields(Part(6, -8)), (-3, 4))
        self.assertEqual(fields(Part(-6, -8)), (3, 4))
        self.assertEqual(fields(Part(0, -5)), (0, 1))

    def test_bottom_left_out(self):
        for top in NUMBERS:
            self.assertEqual(fields(Part(top)), (top, 1))

    def test_arguments_by_names(self):
        self.assertEqual(fields(Part(top=6)), (6, 1))
        self.assertEqual(fields(Part(6, bottom=4)), (3, 2))
        self.assertEqual(fields(Part(bottom=4, top=-6)), (-3, 2))

    def test_bottom_of_nought(self):
        for top in NUMBERS:
            with self.assertRaises(ByNought):
                Part(top, 0)
        with self.assertRaises(ByNought):
            Part(1, bottom=0)

    def test_no_number_as_top_ahead_of_all(self):
        for thing in no_whole_numbers():
            for bottom in [1, 2, 0, None, True, "x"]:
                with self.subTest(thing=repr(thing), bottom=repr(bottom)):
                    with self.assertRaises(NoNumber) as caught:
                        Part(thing, bottom)
                    self.assertIn("top", str(caught.exception))
            with self.assertRaises(NoNumber):
                Part(thing)

    def test_no_number_as_bottom(self):
        for thing in no_whole_numbers():
            for top in [0, 1, LONG]:
                with self.subTest(thing=repr(thing), top=top):
                    with self.assertRaises(NoNumber) as caught:
                        Part(top, thing)
                    self.assertIn("bottom", str(caught.exception))

    def test_refusals_are_of_the_told_kinds(self):
        with self.assertRaises(HopError):
            Part("1")
        with self.assertRaises(ZeroDivisionError):
            Part(1, 0)

    def test_what_is_handed_in_is_not_changed(self):
        tops = [1, 2]
        with self.assertRaises(NoNumber):
            Part(tops)
        self.assertEqual(tops, [1, 2])


class TestEqualParts(unittest.TestCase):

    def test_same_fraction(self):
        for top, bottom in fractions_to_try():
            for times in [1, -1, 3, LONG]:
                one, other = Part(top, bottom), Part(top * times, bottom * times)
                self.assertIs(one == other, True)
                self.assertIs(other == one, True)
                self.assertIs(one != other, False)
                self.assertIs(other != one, False)

    def test_other_fractions(self):
        parts = [Part(top, bottom) for top, bottom in few_fractions()]
        for one_at, one in enumerate(parts):
            for other_at, other in enumerate(parts):
                self.assertIs(one == other, one_at == other_at)
                self.assertIs(one != other, one_at != other_at)
        self.assertNotEqual(Part(1, 2), Part(-1, 2))
        self.assertNotEqual(Part(1, 2), Part(1, 3))
        self.assertNotEqual(Part(1, 3), Part(2, 3))

    def test_within_lists(self):
        self.assertEqual([Part(2, 4), Part(3)], [Part(1, 2), Part(6, 2)])
        self.assertNotEqual([Part(2, 4)], [Part(1, 3)])
        self.assertIn(Part(2, 4), [Part(3), Part(1, 2)])
        self.assertNotIn(Part(2, 4), [Part(3), Part(2), 0, "1/2"])
        self.assertEqual([Part(3), Part(1, 2)].index(Part(5, 10)), 1)
        self.assertEqual((1, Part(1), "o"), (1, Part(1), "o"))

    def test_equal_to_nothing_else(self):
        for part in [Part(1), Part(0), Part(1, 2), Part(-3)]:
            others = [1, 0, -3, True, False, None, 0.5, 1.0, "1", "1/2", "Part(1, 1)", (1, 1), (1, 2), [1, 1],
                      {"top": 1, "bottom": 1}, Fraction(1), Fraction(1, 2), Fraction(part.top, part.bottom),
                      Part, object()]
            check_unlike(self, part, others)

    def test_not_equal_to_what_only_looks_alike(self):
        class Alike:
            top, bottom = 1, 2
        self.assertIs(Part(1, 2) == Alike(), False)
        self.assertIs(Alike() == Part(1, 2), False)


class TestWritingParts(unittest.TestCase):

    def test_str(self):
        for part, told in [(Part(3, 4), "3/4"), (Part(6, 8), "3/4"), (Part(3), "3"), (Part(9, 3), "3"), (Part(0), "0"),
                           (Part(0, -7), "0"), (Part(-3, 4), "-3/4"), (Part(3, -4), "-3/4"), (Part(-3), "-3"),
                           (Part(1, LONG), "1/123456789012345678901234567890"), (Part(-1), "-1"),
                           (Part(10 ** 64), "1" + "0" * 64), (Part(-(10 ** 64)), "-1" + "0" * 64)]:
            self.assertEqual(str(part), told)
            self.assertEqual(f"{part}", told)
            self.assertEqual(f"<{part!s}>", f"<{told}>")

    def test_repr(self):
        for part, told in [(Part(3, 4), "Part(3, 4)"), (Part(6, 8), "Part(3, 4)"), (Part(3), "Part(3, 1)"),
                           (Part(0), "Part(0, 1)"), (Part(3, -4), "Part(-3, 4)"), (Part(-3), "Part(-3, 1)"),
                           (Part(1, LONG), "Part(1, 123456789012345678901234567890)")]:
            self.assertEqual(repr(part), told)
            self.assertEqual(f"{part!r}", told)

    def test_within_lists(self):
        self.assertEqual(str([Part(3, 4), Part(-2), Part(0)]), "[Part(3, 4), Part(-2, 1), Part(0, 1)]")
        self.assertEqual(repr((Part(1, 2),)), "(Part(1, 2),)")
        self.assertEqual(f"{[Part(1, 2)]}", "[Part(1, 2)]")

    def test_all_fractions(self):
        for top, bottom in fractions_to_try():
            fraction = Fraction(top, bottom)
            self.assertEqual(str(Part(top, bottom)), str(fraction))
            self.assertEqual(repr(Part(top, bottom)), repr(fraction).replace("Fraction", "Part"))

    def test_very_long_ones(self):
        # 60 figures raised 100 times: longer than Python writes at one go.
        told = str(Part(10 ** 59).raised(100))
        self.assertEqual(told, "1" + "0" * 5900)
        self.assertEqual(str(Part(-(10 ** 59), 3).raised(99)), "-1" + "0" * 5841 + "/" + str(3 ** 99))
        self.assertEqual(repr(Part(1, 10 ** 59).raised(100)), "Part(1, 1" + "0" * 5900 + ")")
        before = sys.get_int_max_str_digits()
        sys.set_int_max_str_digits(0)
        try:
            wanted = str(SIXTY ** 100)
        finally:
            sys.set_int_max_str_digits(before)
        self.assertEqual(str(Part(SIXTY).raised(100)), wanted)


class TestReckoning(unittest.TestCase):

    def each_pair(self):
        for one in few_fractions():
            for other in few_fractions():
                yield Part(*one), Part(*other), Fraction(*one), Fraction(*other)

    def check(self, part, fraction):
        self.assertIsInstance(part, Part)
        self.assertEqual(fields(part), fields_of(fraction))

    def test_plus_less_times(self):
        for one, other, first, second in self.each_pair():
            self.check(one.plus(other), first + second)
            self.check(one.less(other), first - second)
            self.check(one.times(other), first * second)

    def test_over(self):
        for one, other, first, second in self.each_pair():
            if second == 0:
                with self.assertRaises(ByNought):
                    one.over(other)
            else:
                self.check(one.over(other), first / second)

    def test_over_nought(self):
        for top, bottom in few_fractions():
            with self.assertRaises(ByNought):
                Part(top, bottom).over(Part(0, 9))
            with self.assertRaises(ByNought):
                Part(top, bottom).over(other=Part(3).less(Part(3)))

    def test_is_below(self):
        for one, other, first, second in self.each_pair():
            self.assertIs(one.is_below(other), first < second)
        self.assertIs(Part(1, 2).is_below(Part(2, 4)), False)
        self.assertIs(Part(-1, 2).is_below(Part(-1, 3)), True)
        self.assertIs(Part(LONG, LONG + 1).is_below(Part(LONG + 1, LONG + 2)), True)

    def test_raised(self):
        for top, bottom in few_fractions():
            for many in [0, 1, 2, 3, 7, 64, 99, 100]:
                self.check(Part(top, bottom).raised(many), Fraction(top, bottom) ** many)

    def test_raised_is_the_product_of_so_many(self):
        for top, bottom in few_fractions():
            part, product = Part(top, bottom), Part(1)
            for many in range(12):
                self.assertEqual(part.raised(many), product)
                product = product.times(part)

    def test_nought_raised(self):
        self.assertEqual(Part(0).raised(0), Part(1))
        self.assertEqual(Part(0).raised(1), Part(0))
        self.assertEqual(Part(0).raised(100), Part(0))
        self.assertEqual(fields(Part(0, 5).raised(100)), (0, 1))

    def test_raised_so_many_times_is_refused(self):
        for many in [-1, -100, 101, 102, 200, LONG, -LONG] + no_whole_numbers():
            for part in [Part(1), Part(0), Part(-2, 3)]:
                with self.subTest(many=repr(many), part=str(part)):
                    with self.assertRaises(NoNumber):
                        part.raised(many)

    def test_told_parts_longer_than_sixty_figures_are_reckoned_on(self):
        long = Part(LONG, LONGER).raised(100)
        fraction = Fraction(LONG, LONGER) ** 100
        self.check(long.plus(Part(1, 3)), fraction + Fraction(1, 3))
        self.check(long.times(Part(LONGER)), fraction * LONGER)
        self.check(long.over(long), Fraction(1))
        self.check(long.less(long), Fraction(0))
        self.assertIs(long.is_below(Part(LONG, LONGER).raised(99)), True)

    def test_arguments_by_names(self):
        self.assertEqual(Part(1, 2).plus(other=Part(1, 3)), Part(5, 6))
        self.assertEqual(Part(1, 2).less(other=Part(1, 3)), Part(1, 6))
        self.assertEqual(Part(1, 2).times(other=Part(1, 3)), Part(1, 6))
        self.assertEqual(Part(1, 2).over(other=Part(1, 3)), Part(3, 2))
        self.assertEqual(Part(1, 2).raised(many=3), Part(1, 8))
        self.assertIs(Part(1, 2).is_below(other=Part(1, 3)), False)

    def test_parts_never_change(self):
        for one, other, first, second in self.each_pair():
            for turn in range(2):
                one.plus(other), one.less(other), one.times(other), one.is_below(other), one.raised(5)
                str(one), repr(one), one == other
                if second:
                    one.over(other)
                with self.assertRaises(ByNought):
                    one.over(Part(0))
                with self.assertRaises(NoNumber):
                    one.raised(-1)
                self.check(one, first)
                self.check(other, second)

    def test_with_itself(self):
        part = Part(-2, 3)
        self.assertEqual(part.plus(part), Part(-4, 3))
        self.assertEqual(part.less(part), Part(0))
        self.assertEqual(part.times(part), Part(4, 9))
        self.assertEqual(part.over(part), Part(1))
        self.assertIs(part.is_below(part), False)
        self.assertEqual(part, Part(-2, 3))

    def test_told_alike_when_asked_twice(self):
        for one, other, first, second in self.each_pair():
            self.assertEqual(one.plus(other), one.plus(other))
            self.assertEqual(str(one), str(one))
            self.assertEqual(one.raised(9), one.raised(9))


class TestReadingParts(unittest.TestCase):

    def test_there_and_back(self):
        for top, bottom in fractions_to_try():
            part = Part(top, bottom)
            found = read_part(str(part))
            self.assertIsInstance(found, Part)
            self.assertEqual(fields(found), fields(part))

    def test_named_examples(self):
        for text, wanted in [("3/4", (3, 4)), ("3", (3, 1)), ("-3/4", (-3, 4)), ("-3", (-3, 1)), ("0", (0, 1)),
                             ("10", (10, 1)), ("100/7", (100, 7)), ("1/10", (1, 10)), ("-1/100", (-1, 100))]:
            self.assertEqual(fields(read_part(text)), wanted)
            self.assertEqual(fields(read_part(text=text)), wanted)

    def test_long_texts(self):
        for length in [63, 64, 65, 127, 128, 129, 499, 998]:
            text = "-" + "7" * length
            self.assertEqual(fields(read_part(text)), (-int("7" * length), 1))
            self.assertEqual(str(read_part(text)), text)
        text = "1" + "0" * 498 + "/" + "3" * 499
        self.assertEqual(str(read_part(text)), text)

    def test_texts_that_str_never_tells(self):
        texts = ["", " ", "2/4", "6/3", "4/2", "-2/4", "3/1", "0/1", "-3/1", "1/1", "1/0", "0/0", "-1/0", "3/0", "0/5",
                 "-0", "-0/1", "00", "01", "007", "-01", "1/02", "01/2", "1/00", "+1", "+1/2", "1/+2", "+0", "++1",
                 " 1", "1 ", "1 /2", "1/ 2", "1 2", "1/2 ", " 1/2", "1\n", "\n1", "1/2\n", "1\t", "1/\n2", "\n",
                 "1-", "1/-2", "-1/-2", "--1", "-", "-/2", "/", "1/", "/2", "-1/", "1//2", "1/2/3", "1/2/", "/1/2",
                 "- 1", "1.0", "1.", ".5", "0.5", "1,0", "1,000", "1_000", "1/1_0", "a", "1a", "a/2", "1/b", "0x1",
                 "1e3", "e", "nan", "inf", "None", "True", "one", "Part(1, 2)", "1:2", "1\\2", "(1)", "1/2/1", "1;2"]
        for text in texts:
            with self.subTest(text=text):
                with self.assertRaises(NoNumber):
                    read_part(text)

    def test_figures_of_other_scripts(self):
        for text in ["\u0661", "\u00b2", "1/\u0662", "-\u0661", "\uff11", "1\u00a0"]:
            with self.assertRaises(NoNumber):
                read_part(text)

    def test_each_short_text(self):
        signs = "0123-/+ a."
        short = [""]
        for turn in range(4):
            short += [text + sign for text in short if len(text) == turn for sign in signs]
        told = {str(Fraction(top, bottom)) for top in range(-33, 34) for bottom in range(1, 34)}
        told |= {str(top) for top in range(-333, 3334)}
        for text in short:
            if text in told:
                self.assertEqual(str(read_part(text)), text)
            else:
                with self.assertRaises(NoNumber, msg=text):
                    read_part(text)

    def test_things_that_are_no_texts(self):
        for thing in no_texts() + [Part(1, 2), 12, ["1/2"], ("1", "2"), b"1/2", Fraction(1, 2)]:
            with self.subTest(thing=repr(thing)):
                with self.assertRaises(NoNumber):
                    read_part(thing)


if __name__ == "__main__":
    unittest.main()
