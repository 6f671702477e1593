"""hopline.words: points 10 and 11, and 2 as far as it speaks of words."""

import random
import time
import unittest
from collections import Counter
from itertools import product
from math import comb

from hopline.errors import NoPlace, NoWord
from hopline.words import ends_of, is_word, places_in, shortened

from tests.test_rows import LONG_ROWS
from tests.things import no_whole_numbers, no_words


def words_of(many):
    """All words of so many signs."""
    return ["".join(signs) for signs in product(".o", repeat=many)]


def chance_words(many, signs, seed):
    """So many words of so many signs each, always the same ones."""
    chooser = random.Random(seed)
    return ["".join(chooser.choice("o.") for place in range(signs)) for turn in range(many)]


LONG_WORDS = LONG_ROWS + chance_words(12, 30, 5)
FEW_WORDS = [word for many in range(8) for word in words_of(many)]


def places_by_words(word):
    return [place for place in range(len(word) - 1) if word[place] == "o" and word[place + 1] == "."]


def both_by_words(word, place):
    """Both shorter words, sign by sign as point 10 tells them."""
    without_free = "".join(sign for at, sign in enumerate(word) if at != place + 1)
    without_bead = "".join(sign for at, sign in enumerate(word) if at != place)
    return without_free, without_bead


def finished_by_words(word, choose):
    """The finished sum of a word, by going on shortening at a place that choose takes: a Counter."""
    words, finished = Counter({word: 1}), Counter()
    while words:
        # The longest word first: so none comes again behind it.
        longest = max(words, key=len)
        many = words.pop(longest)
        places = places_by_words(longest)
        if places:
            for shorter in both_by_words(longest, choose(places)):
                words[shorter] += many
        else:
            finished[longest] += many
    return finished


def ends_by_words(word, choose):
    """The ends of a word, from its finished sum."""
    finished = finished_by_words(word, choose)
    return sorted((end.count("."), end.count("o"), many) for end, many in finished.items())


def ends_from_the_right(word):
    """The ends of a word, letter by letter from its right end: the other way round than the program goes."""
    ends = Counter({(0, 0): 1})
    for sign in reversed(word):
        following = Counter()
        for (frees, beads), many in ends.items():
            if sign == ".":
                following[frees + 1, beads] += many
            else:
                following[0, beads + 1] += many
                for left in range(1, frees + 1):
                    following[left, beads] += many
        ends = following
    return sorted((frees, beads, many) for (frees, beads), many in ends.items())


def first(places):
    return places[0]


def last(places):
    return places[-1]


def middle(places):
    return places[len(places) // 2]


class TestIsWord(unittest.TestCase):

    def test_words(self):
        for word in FEW_WORDS + LONG_WORDS + ["o" * many for many in range(31)] + ["." * many for many in range(31)]:
            self.assertIs(is_word(word), True)
        self.assertIs(is_word(""), True)
        self.assertIs(is_word(thing="o."), True)
        self.assertIs(is_word(thing=""), True)

    def test_what_is_none(self):
        for thing in no_words() + ["-", "o-", "o" * 31, "." * 31, "o." * 15 + "o", "o" * 1000]:
            with self.subTest(thing=repr(thing)):
                self.assertIs(is_word(thing), False)

    def test_another_sign_at_each_place(self):
        for place in range(30):
            for sign in ["x", "O", "0", "\n", " ", "a", "b", "/", "-", ","]:
                self.assertIs(is_word("o" * place + sign + "." * (29 - place)), False)


class TestPlaces(unittest.TestCase):

    def test_named_examples(self):
        for word, wanted in [("", []), ("o", []), (".", []), ("o.", [0]), (".o", []), ("oo", []), ("..", []),
                             ("oo.", [1]), ("o..", [0]), (".o.", [1]), ("o.o.", [0, 2]), ("o.oo..o", [0, 3]),
                             ("o." * 15, list(range(0, 30, 2))), (".o" * 15, list(range(1, 29, 2))),
                             ("o" * 15 + "." * 15, [14]), ("." * 15 + "o" * 15, []), ("." * 28 + "o.", [28])]:
            self.assertEqual(places_in(word), wanted)
            self.assertEqual(places_in(word=word), wanted)

    def test_each_word(self):
        for word in FEW_WORDS + LONG_WORDS:
            found = places_in(word)
            self.assertIs(type(found), list)
            self.assertEqual(found, places_by_words(word))
            self.assertEqual(found, sorted(found))

    def test_told_lists_are_the_askers_own(self):
        for word in FEW_WORDS + LONG_WORDS:
            one, other = places_in(word), places_in(word)
            kept = list(one)
            self.assertIsNot(one, other)
            one.append(99)
            one.insert(0, "x")
            self.assertEqual(other, kept)
            del other[:]
            self.assertEqual(places_in(word), kept)
            for place in kept:
                shortened(word, place)

    def test_what_is_no_word(self):
        for thing in no_words():
            with self.subTest(thing=repr(thing)):
                with self.assertRaises(NoWord):
                    places_in(thing)


class TestShortened(unittest.TestCase):

    def test_named_examples(self):
        for word, place, wanted in [("o.", 0, ("o", ".")), ("oo.", 1, ("oo", "o.")), ("o..", 0, ("o.", "..")),
                                    (".o.", 1, (".o", "..")), ("o.o.", 0, ("oo.", ".o.")), ("o.o.", 2, ("o.o", "o..")),
                                    ("oo..", 1, ("oo.", "o..")),
                                    ("o" * 15 + "." * 15, 14, ("o" * 15 + "." * 14, "o" * 14 + "." * 15))]:
            self.assertEqual(shortened(word, place), wanted)
            self.assertEqual(shortened(place=place, word=word), wanted)
            self.assertEqual(shortened(word, place=place), wanted)

    def test_each_place(self):
        for word in FEW_WORDS + LONG_WORDS:
            for place in range(len(word)):
                if place in places_by_words(word):
                    found = shortened(word, place)
                    self.assertIs(type(found), tuple)
                    self.assertEqual(found, both_by_words(word, place))
                    self.assertEqual(shortened(word, place), found)
                else:
                    with self.assertRaises(NoPlace):
                        shortened(word, place)

    def test_what_is_no_place_of_the_word(self):
        for word in FEW_WORDS + LONG_WORDS:
            many = len(word)
            for place in [-1, -2, -many, -many - 1, many, many + 1, 1000, 10 ** 50, -(10 ** 50)]:
                with self.assertRaises(NoPlace):
                    shortened(word, place)

    def test_what_is_no_whole_number(self):
        for word in ["", "o", "o.", ".o.", "oo..", "o." * 15]:
            for thing in no_whole_numbers():
                with self.subTest(word=word, thing=repr(thing)):
                    with self.assertRaises(NoPlace):
                        shortened(word, thing)

    def test_what_was_handed_in_is_not_changed(self):
        word, place = ["o", "."], [0]
        with self.assertRaises(NoWord):
            shortened(word, 0)
        with self.assertRaises(NoPlace):
            shortened("o.", place)
        self.assertEqual((word, place), (["o", "."], [0]))

    def test_no_word_ahead_of_no_place(self):
        for thing in no_words():
            for place in [0, 1, -1, 99, None, True, "x", []]:
                with self.subTest(thing=repr(thing), place=repr(place)):
                    with self.assertRaises(NoWord):
                        shortened(thing, place)


class TestEnds(unittest.TestCase):

    def test_named_examples(self):
        for word, wanted in [("", [(0, 0, 1)]), (".", [(1, 0, 1)]), ("o", [(0, 1, 1)]), (".o", [(1, 1, 1)]),
                             ("o.", [(0, 1, 1), (1, 0, 1)]), ("oo.", [(0, 1, 1), (0, 2, 1), (1, 0, 1)]),
                             ("o..", [(0, 1, 1), (1, 0, 1), (2, 0, 1)]),
                             ("oo..", [(0, 1, 2), (0, 2, 1), (1, 0, 2), (2, 0, 1)]),
                             (".o.o", [(1, 2, 1), (2, 1, 1)]),
                             ("." * 30, [(30, 0, 1)]), ("o" * 30, [(0, 30, 1)]),
                             ("." * 15 + "o" * 15, [(15, 15, 1)])]:
            self.assertEqual(ends_of(word), wanted)
            self.assertEqual(ends_of(word=word), wanted)

    def test_whatever_is_shortened_first(self):
        chooser = random.Random(3)
        for word in [word for many in range(9) for word in words_of(many)] + chance_words(20, 11, 7):
            found = ends_of(word)
            for choose in [first, last, middle, chooser.choice]:
                self.assertEqual(found, ends_by_words(word, choose))

    def test_all_free_places_stand_ahead_of_all_beads(self):
        for word in words_of(7):
            wanted = {"." * frees + "o" * beads: many for frees, beads, many in ends_of(word)}
            self.assertEqual(wanted, dict(finished_by_words(word, last)))

    def test_kinds_of_what_is_told(self):
        for word in FEW_WORDS + LONG_WORDS:
            found = ends_of(word)
            self.assertIs(type(found), list)
            self.assertEqual(found, sorted(found))
            self.assertEqual(len({end[:2] for end in found}), len(found))
            for end in found:
                self.assertIs(type(end), tuple)
                self.assertEqual(len(end), 3)
                self.assertGreater(end[2], 0)

    def test_fifteen_beads_ahead_of_fifteen_free_places(self):
        found = ends_of("o" * 15 + "." * 15)
        wanted = [(0, left, comb(29 - left, 14)) for left in range(1, 16)]
        wanted += [(left, 0, comb(29 - left, 14)) for left in range(1, 16)]
        self.assertEqual(found, wanted)
        self.assertEqual(sum(many for frees, beads, many in found), comb(30, 15))

    def test_beads_ahead_of_free_places(self):
        for beads in range(1, 16):
            for frees in range(1, 16):
                wanted = [(0, left, comb(frees + beads - left - 1, frees - 1)) for left in range(1, beads + 1)]
                wanted += [(left, 0, comb(frees + beads - left - 1, beads - 1)) for left in range(1, frees + 1)]
                self.assertEqual(ends_of("o" * beads + "." * frees), wanted)

    def test_words_of_thirty_signs_in_no_long_time(self):
        words = LONG_WORDS + chance_words(60, 30, 11) + ["o." * 15, ".o" * 15, "oo.." * 7 + "o.", "o" * 15 + "." * 15]
        start = time.perf_counter()
        found = [ends_of(word) for word in words]
        self.assertLess(time.perf_counter() - start, 20)
        self.assertEqual(found, [ends_from_the_right(word) for word in words])

    def test_told_lists_are_the_askers_own(self):
        for word in FEW_WORDS + LONG_WORDS:
            one, other = ends_of(word), ends_of(word)
            kept = list(one)
            self.assertIsNot(one, other)
            one.append((0, 0, 0))
            one[0] = None
            self.assertEqual(other, kept)
            del other[:]
            self.assertEqual(ends_of(word), kept)

    def test_what_is_no_word(self):
        for thing in no_words():
            with self.subTest(thing=repr(thing)):
                with self.assertRaises(NoWord):
                    ends_of(thing)


if __name__ == "__main__":
    unittest.main()
