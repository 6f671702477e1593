"""hopline.sums: points 10 and 11, and 2 as far as it speaks of sums."""

import random
import unittest
from collections import Counter

from hopline.errors import NoPlace, NoWord
from hopline.parts import Part
from hopline.sums import Sum
from hopline.walks import Walk
from hopline.words import ends_of

from tests.test_words import both_by_words, chance_words, finished_by_words, first, places_by_words, words_of
from tests.things import Alike, Odd, check_alike, check_unlike, no_whole_numbers, no_words

TWELVE = ["o." * 6, ".o" * 6, "o" * 6 + "." * 6, "." * 6 + "o" * 6, "o" * 12, "." * 12, "oo.o..o.oo.."]
WORDS = [word for many in range(6) for word in words_of(many)] + TWELVE + chance_words(6, 12, 1) + chance_words(6, 9, 2)
TOO_LONG = ["o" * 13, "." * 13, "o." * 6 + "o", "o" * 14, "o." * 15, "o" * 30, "o" * 31]


def told(found):
    """All that a Sum tells."""
    return {"words": found.words(), "len": len(found), "str": str(found), "is_finished": found.is_finished()}


def told_of(words):
    """What a Sum of these words, a Counter, is to tell."""
    order = sorted(sorted(words), key=len)
    texts = [("" if words[word] == 1 else f"{words[word]} ") + (word or "-") for word in order]
    return {"words": [(word, words[word]) for word in order], "len": len(order), "str": " + ".join(texts),
            "is_finished": all("o." not in word for word in order)}


def shorten_model(words, word, place):
    many = words.pop(word)
    for shorter in both_by_words(word, place):
        words[shorter] += many


def open_places(words):
    """All pairs of a word of the sum and a place at which it can be shortened."""
    return [(word, place) for word in sorted(words) for place in places_by_words(word)]


class TestShortening(unittest.TestCase):

    def test_new_sums(self):
        for word in WORDS:
            found = Sum(word)
            self.assertEqual(told(found), told_of(Counter({word: 1})))
            self.assertEqual(Sum(word=word).words(), [(word, 1)])
            self.assertIs(found.is_finished(), "o." not in word)

    def test_behind_each_shortening(self):
        chooser = random.Random(4)
        for word in WORDS:
            found, model = Sum(word), Counter({word: 1})
            for turn in range(120):
                choices = open_places(model)
                if not choices:
                    break
                chosen, place = chooser.choice(choices)
                self.assertIsNone(found.shorten(chosen, place))
                shorten_model(model, chosen, place)
                self.assertEqual(told(found), told_of(model))

    def test_shortened_till_finished(self):
        # The greatest words first, at their last places, so that words come together.
        for word in WORDS:
            found, model = Sum(word), Counter({word: 1})
            while open_places(model):
                chosen, place = max(open_places(model), key=lambda pair: (len(pair[0]), pair))
                found.shorten(chosen, place)
                shorten_model(model, chosen, place)
            self.assertEqual(told(found), told_of(model))
            self.assertIs(found.is_finished(), True)
            finished = Sum(word)
            finished.finish()
            check_alike(self, found, finished)

    def test_by_hand(self):
        found = Sum("oo..")
        self.assertEqual(str(found), "oo..")
        found.shorten("oo..", 1)
        self.assertEqual(str(found), "o.. + oo.")
        found.shorten(place=1, word="oo.")
        self.assertEqual(str(found), "o. + oo + o..")
        found.shorten("o..", 0)
        self.assertEqual(str(found), ".. + 2 o. + oo")
        self.assertEqual(found.words(), [("..", 1), ("o.", 2), ("oo", 1)])
        self.assertIs(found.is_finished(), False)
        found.shorten(word="o.", place=0)
        self.assertEqual(str(found), "2 . + 2 o + .. + oo")
        self.assertEqual(found.words(), [(".", 2), ("o", 2), ("..", 1), ("oo", 1)])
        self.assertIs(found.is_finished(), True)
        self.assertEqual(len(found), 4)

    def test_the_word_without_signs(self):
        found = Sum("")
        for turn in range(2):
            self.assertEqual(told(found), {"words": [("", 1)], "len": 1, "str": "-", "is_finished": True})
            self.assertIsNone(found.finish())

    def test_kinds_of_what_is_told(self):
        found = Sum("oo..")
        found.finish()
        self.assertIs(type(found.words()), list)
        for pair in found.words():
            self.assertIs(type(pair), tuple)
            self.assertEqual(len(pair), 2)
        self.assertIs(type(str(found)), str)


class TestFinishing(unittest.TestCase):

    def test_finish(self):
        for word in WORDS + [word for many in range(6, 9) for word in words_of(many)]:
            found = Sum(word)
            self.assertIsNone(found.finish())
            self.assertEqual(told(found), told_of(finished_by_words(word, first)))
            before = told(found)
            self.assertIsNone(found.finish())
            self.assertEqual(told(found), before)

    def test_finish_behind_some_shortenings(self):
        chooser = random.Random(8)
        for word in WORDS:
            found, finished = Sum(word), Sum(word)
            finished.finish()
            for turn in range(chooser.randrange(12)):
                choices = open_places([word for word, many in found.words()])
                if choices:
                    found.shorten(*chooser.choice(choices))
            found.finish()
            check_alike(self, found, finished)

    def test_the_ends_are_the_finished_words(self):
        for word in WORDS:
            found = Sum(word)
            found.finish()
            ends = sorted((end.count("."), end.count("o"), many) for end, many in found.words())
            self.assertEqual(ends, ends_of(word))
            self.assertEqual(sorted(("." * frees + "o" * beads, many) for frees, beads, many in ends_of(word)),
                             sorted(found.words()))


class TestOwnership(unittest.TestCase):

    def test_told_lists_are_the_askers_own(self):
        for word in WORDS:
            found = Sum(word)
            for turn in range(2):
                before = told(found)
                one, other = found.words(), found.words()
                self.assertIsNot(one, other)
                one.append(("o.", 5))
                one[0] = None
                self.assertEqual(other, before["words"])
                del other[:]
                self.assertEqual(told(found), before)
                found.finish()

    def test_a_told_list_is_not_changed_later(self):
        found = Sum("oo.")
        words = found.words()
        found.finish()
        self.assertEqual(words, [("oo.", 1)])

    def test_asking_changes_nothing(self):
        found = Sum("oo..o.")
        found.shorten("oo..o.", 1)
        before = told(found)
        for turn in range(3):
            self.assertEqual(told(found), before)

    def test_sums_of_the_same_word_go_by_themselves(self):
        one, other = Sum("o.o."), Sum("o.o.")
        one.finish()
        self.assertEqual(str(other), "o.o.")
        self.assertEqual(str(Sum("o.o.")), "o.o.")


class TestRefusals(unittest.TestCase):

    def sums(self):
        """Sums of several words: new ones, shortened once, finished."""
        for word in ["", "o", ".", "o.", "oo..", "o.o.o.", ".o.", "o." * 6]:
            yield Sum(word)
            for place in places_by_words(word):
                found = Sum(word)
                found.shorten(word, place)
                yield found
            finished = Sum(word)
            finished.finish()
            yield finished

    def test_made_of_what_is_no_word(self):
        for thing in no_words() + TOO_LONG:
            with self.subTest(thing=repr(thing)):
                with self.assertRaises(NoWord):
                    Sum(thing)
                with self.assertRaises(NoWord):
                    Sum(word=thing)

    def check_refused(self, found, word, place, error):
        before = told(found)
        with self.assertRaises(error):
            found.shorten(word, place)
        self.assertEqual(told(found), before)

    def test_words_that_are_not_in_the_sum(self):
        for found in self.sums():
            there = [word for word, many in found.words()]
            others = [word for word in words_of(2) + words_of(3) + ["", "o." * 6, "oo..", "o.o.o."] + TOO_LONG
                      if word not in there]
            for thing in others + no_words():
                for place in [0, 1, None, -1, []]:
                    with self.subTest(found=str(found), thing=repr(thing), place=repr(place)):
                        self.check_refused(found, thing, place, NoWord)

    def test_a_word_that_was_shortened_is_not_there_any_more(self):
        found = Sum("oo.")
        found.shorten("oo.", 1)
        self.check_refused(found, "oo.", 1, NoWord)
        found.shorten("o.", 0)
        self.check_refused(found, "o.", 0, NoWord)
        self.assertEqual(str(found), ". + o + oo")

    def test_what_is_no_place_of_the_word(self):
        for found in self.sums():
            for word, many in found.words():
                size = len(word)
                wrong = [place for place in range(size) if place not in places_by_words(word)]
                for place in wrong + [-1, -2, -size, -size - 1, size, size + 1, 10 ** 50] + no_whole_numbers():
                    with self.subTest(found=str(found), word=word, place=repr(place)):
                        self.check_refused(found, word, place, NoPlace)

    def test_true_and_false_at_places(self):
        self.check_refused(Sum("o."), "o.", False, NoPlace)
        self.check_refused(Sum("oo."), "oo.", True, NoPlace)

    def test_what_was_handed_in_is_not_changed(self):
        found, word, place = Sum("o."), ["o", "."], [0]
        self.check_refused(found, word, 0, NoWord)
        self.check_refused(found, "o.", place, NoPlace)
        self.assertEqual((word, place), (["o", "."], [0]))


class TestEqualSums(unittest.TestCase):

    def test_same_words(self):
        for word in WORDS:
            check_alike(self, Sum(word), Sum(word))

    def test_whatever_was_shortened_first(self):
        one, other = Sum("o.o."), Sum("o.o.")
        one.shorten("o.o.", 0)
        check_unlike(self, one, [other])
        other.shorten("o.o.", 2)
        check_unlike(self, one, [other])
        one.finish()
        other.finish()
        check_alike(self, one, other)

    def test_finished_words_come_from_other_words(self):
        # The words are added in other orders there, which tells nothing.
        one, other = Sum("oo.."), Sum("oo..")
        for word, place in [("oo..", 1), ("oo.", 1), ("o.", 0), ("o..", 0), ("o.", 0)]:
            one.shorten(word, place)
        for word, place in [("oo..", 1), ("o..", 0), ("o.", 0), ("oo.", 1), ("o.", 0)]:
            other.shorten(word, place)
        check_alike(self, one, other)

    def test_other_words(self):
        check_unlike(self, Sum("o."), [Sum(".o"), Sum("o"), Sum(""), Sum("o.."), Sum("oo.")])
        finished = Sum("o.")
        finished.finish()
        check_unlike(self, finished, [Sum("o."), Sum("o"), Sum(".")])

    def test_the_same_words_unlike_often(self):
        one, other = Sum("oo..."), Sum("oo...")
        for word, place in [("oo...", 1), ("o...", 0), ("oo..", 1), ("oo.", 1), ("o.", 0), ("o..", 0)]:
            one.shorten(word, place)
        for word, place in [("oo...", 1), ("o...", 0), ("oo..", 1), ("o..", 0), ("o.", 0), ("oo.", 1)]:
            other.shorten(word, place)
        self.assertEqual(str(one), ". + o + 2 .. + 2 o. + oo + ...")
        self.assertEqual(str(other), "2 . + 2 o + 2 .. + o. + oo + ...")
        check_unlike(self, one, [other])
        one.finish()
        check_unlike(self, one, [other])
        other.finish()
        check_alike(self, one, other)

    def test_equal_to_nothing_else(self):
        for word in ["", "o", "o."]:
            found = Sum(word)
            check_unlike(self, found, [
                word, str(found), found.words(), dict(found.words()), None, True, False, 0, 1, [], [found], (found,),
                {}, Sum, Alike(found), Odd(), Part(1), Walk("o."), object()])
        self.assertNotIn(Sum("o."), ["o.", None, Sum("o"), Walk("o.")])


if __name__ == "__main__":
    unittest.main()
