"""Parts: exact fractions."""

from hopline.errors import ByNought, NoNumber

# Python refuses to turn very long numbers into texts, or back, at one go; so it is done piece by piece.
PIECE_FIGURES = 64
PIECE = 10 ** 64

MOST_RAISED = 100


def is_whole(thing):
    """Tell whether it is a whole number: an int, but neither True nor False."""
    return isinstance(thing, int) and not isinstance(thing, bool)


def need_number(thing, least, most):
    """Refuse what is no whole number from the least to the most."""
    if not is_whole(thing) or thing < least or thing > most:
        raise NoNumber("no whole number, or none that is allowed there")


def common_divisor(one, other):
    """Tell the greatest common divisor of two whole numbers that are not both 0."""
    while other != 0:
        one, other = other, one % other
    return abs(one)


def power(number, many):
    """Tell the product of so many like the number, by squares, for it may be long."""
    result = 1
    for bit in f"{many:b}":
        result *= result
        if bit == "1":
            result *= number
    return result


def figures_of(number):
    """Write a whole number, however long it is."""
    rest = abs(number)
    pieces = []
    while rest >= PIECE:
        rest, piece = divmod(rest, PIECE)
        pieces.append(str(piece).zfill(PIECE_FIGURES))
    pieces.append(str(rest))
    if number < 0:
        pieces.append("-")
    return "".join(reversed(pieces))


def is_figures(text):
    """Tell whether a text writes a whole number from 0 on, without a nought ahead."""
    return text.isascii() and text.isdigit() and (text == "0" or not text.startswith("0"))


def number_of(figures):
    """Read a text of figures, however long it is."""
    number = 0
    for start in range(0, len(figures), PIECE_FIGURES):
        piece = figures[start:start + PIECE_FIGURES]
        number = number * power(10, len(piece)) + int(piece)
    return number


class Part:
    """An exact fraction in lowest terms, which never changes; its bottom is 1 or more."""

    def __init__(self, top, bottom=1):
        if not is_whole(top):
            raise NoNumber("the top of a Part is a whole number")
        if not is_whole(bottom):
            raise NoNumber("the bottom of a Part is a whole number")
        if bottom == 0:
            raise ByNought("the bottom of a Part is not 0")
        divisor = common_divisor(top, bottom)
        if bottom < 0:
            divisor = -divisor
        self.top = top // divisor
        self.bottom = bottom // divisor

    def plus(self, other):
        """Tell the sum with another Part."""
        return Part(self.top * other.bottom + other.top * self.bottom, self.bottom * other.bottom)

    def less(self, other):
        """Tell the difference from another Part."""
        return Part(self.top * other.bottom - other.top * self.bottom, self.bottom * other.bottom)

    def times(self, other):
        """Tell the product with another Part."""
        # Divided out crosswise first, for in the long numbers of a long product it would take long.
        first = common_divisor(self.top, other.bottom)
        second = common_divisor(other.top, self.bottom)
        return lowest((self.top // first) * (other.top // second), (self.bottom // second) * (other.bottom // first))

    def over(self, other):
        """Tell the quotient by another Part."""
        # Of the Part of 0 the bottom comes to 0, which the new Part itself refuses.
        return self.times(Part(other.bottom, other.top))

    def raised(self, many):
        """Tell the product of so many like this one, from 0 to 100."""
        need_number(many, 0, MOST_RAISED)
        # Powers of numbers without a common divisor have none either.
        return lowest(power(self.top, many), power(self.bottom, many))

    def is_below(self, other):
        """Tell whether it is below another Part."""
        return self.top * other.bottom < other.top * self.bottom

    def __eq__(self, other):
        return isinstance(other, Part) and self.top == other.top and self.bottom == other.bottom

    def __repr__(self):
        return f"Part({figures_of(self.top)}, {figures_of(self.bottom)})"

    def __str__(self):
        if self.bottom == 1:
            return f"{figures_of(self.top)}"
        return f"{figures_of(self.top)}/{figures_of(self.bottom)}"


def lowest(top, bottom):
    """Tell the Part of numbers that are known to be in lowest terms; to look for a divisor would take long."""
    result = Part(1)
    result.top = top
    result.bottom = bottom
    return result


def read_part(text):
    """Read a Part from the very text that str tells of it."""
    if not isinstance(text, str):
        raise NoNumber("a Part is read from a text")
    head, slash, tail = text.partition("/")
    top_figures = head.removeprefix("-")
    bottom_figures = tail if slash else "1"
    if not is_figures(top_figures) or not is_figures(bottom_figures) or bottom_figures == "0":
        raise NoNumber("the text writes no Part")
    top = number_of(top_figures)
    if head.startswith("-"):
        top = -top
    part = Part(top, number_of(bottom_figures))
    # What is left is written by figures but not as str does it: -0, 2/4, 3/1.
    if str(part) != text:
        raise NoNumber("the text writes no Part as str does")
    return part
