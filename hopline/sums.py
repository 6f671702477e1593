"""Sums of words that are shortened."""

from hopline.errors import NoWord
from hopline.words import is_word, places_in, shortened

MOST_SIGNS = 12


def order_of(word):
    """Tell by what words are sorted: their numbers of signs, then as Python sorts texts."""
    return len(word), word


def written(word, many):
    """Write a word of a sum behind its number, which is left out where it is 1."""
    name = "-" if word == "" else word
    return name if many == 1 else f"{many} {name}"


class Sum:
    """Words, and how often each one is there."""

    def __init__(self, word):
        if not is_word(word) or len(word) > MOST_SIGNS:
            raise NoWord("a Sum is made of a word of at most 12 signs")
        self.often = {word: 1}

    def shorten(self, word, place):
        """Put both shorter words in the stead of a word, as often as it is there."""
        if not is_word(word) or word not in self.often:
            raise NoWord("the word isn't in the sum")
        shorter = shortened(word, place)
        many = self.often.pop(word)
        for each in shorter:
            self.often[each] = self.often.get(each, 0) + many

    def finish(self):
        """Shorten till no word can be shortened."""
        while not self.is_finished():
            for word in list(self.often):
                places = places_in(word)
                if places:
                    self.shorten(word, places[0])

    def is_finished(self):
        """Tell whether no word can be shortened."""
        return not any([places_in(word) for word in self.often])

    def words(self):
        """Tell the words in their order: tuples (word, many)."""
        return [(word, self.often[word]) for word in sorted(self.often, key=order_of)]

    def __eq__(self, other):
        return isinstance(other, Sum) and self.often == other.often

    def __len__(self):
        return len(self.often)

    def __str__(self):
        return " + ".join([written(word, many) for word, many in self.words()])
