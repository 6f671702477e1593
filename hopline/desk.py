"""The desk: Walks kept by names, and answers to rows of words."""

from hopline.chances import bead_chance
from hopline.courses import heap_at, heaps_many
from hopline.errors import BadRow, NoName, TooMany
from hopline.lines import ring_weight
from hopline.parts import is_figures, read_part
from hopline.rows import need_row
from hopline.totals import row_chance, through, total
from hopline.walks import Walk
from hopline.weights import weight

LETTERS = "abcdefghijklmnopqrstuvwxyz"
MOST_LETTERS = 8
MOST_FIGURES = 9
MOST_NAMES = 20

NOTHING = "-"
MAKING = "row"

# What stands behind the first word of each row; a WALL, N and PLACE are written as each other NUMBER is.
SHAPES = {
    "row": ("NAME", "ROW", "PART", "PART"),
    "drop": ("NAME",),
    "names": (),
    "step": ("NAME", "NUMBER"),
    "back": ("NAME",),
    "shown": ("NAME",),
    "open": ("NAME",),
    "done": ("NAME",),
    "beads": ("NAME",),
    "chance": ("NAME", "NUMBER"),
    "weight": ("NAME",),
    "often": ("NAME",),
    "heaps": ("NAME",),
    "heap": ("NAME", "NUMBER"),
    "total": ("NUMBER", "PART", "PART"),
    "through": ("NUMBER", "PART", "PART"),
    "bead": ("NUMBER", "NUMBER", "PART", "PART"),
    "ring": ("RING",),
}


def is_name(word):
    """Tell whether a word is a name: one to eight small letters."""
    return 1 <= len(word) <= MOST_LETTERS and all([letter in LETTERS for letter in word])


def is_written(word, kind):
    """Tell whether a word is written as its kind asks for, as far as the row hangs on it."""
    if kind == "NAME":
        return is_name(word)
    if kind == "NUMBER":
        return is_figures(word) and len(word) <= MOST_FIGURES
    return word != ""


def words_in(row):
    """Tell the words of a row, refused where it is none of the desk's."""
    if not isinstance(row, str):
        raise BadRow("a row of words is a text")
    words = row.split(" ")
    if words[0] not in SHAPES:
        raise BadRow("the desk knows no such row")
    kinds = SHAPES[words[0]]
    if len(words) - 1 != len(kinds):
        raise BadRow("too few words, or too many")
    if not all([is_written(word, kind) for word, kind in zip(words[1:], kinds)]):
        raise BadRow("a word is not written as it ought to be")
    return words


def value_of(word, kind):
    """Tell what a word means, as its kind asks for."""
    if kind == "NUMBER":
        return int(word)
    if kind == "PART":
        return read_part(word)
    if kind == "ROW":
        need_row(word)
    return word


def joined(things):
    """Write things with blanks between, and where there are none that there is nothing to tell."""
    return " ".join([str(thing) for thing in things]) if things else NOTHING


def answer_row(kept, values):
    """Keep a Walk by a name, in the stead of an elder one."""
    name, row, inn, out = values
    walk = Walk(row, inn, out)
    if name not in kept and len(kept) >= MOST_NAMES:
        raise TooMany("the desk keeps at most twenty names")
    kept[name] = walk
    return "ok"


def answer_drop(kept, values):
    """Keep nothing by a name any longer."""
    del kept[values[0]]
    return "ok"


def answer_names(kept, values):
    """Tell all names, sorted."""
    return joined(sorted(kept))


def answer_step(kept, values):
    """Make a step, and tell the row then."""
    name, wall = values
    return kept[name].step(wall)


def answer_back(kept, values):
    """Undo the last step, and tell the row then."""
    return kept[values[0]].undo()


def answer_shown(kept, values):
    """Tell row and paces."""
    walk = kept[values[0]]
    return joined([walk.row(), walk.inn, walk.out])


def answer_walls(kept, values):
    """Tell the open walls."""
    return joined(kept[values[0]].walls())


def answer_done(kept, values):
    """Tell the walls of all steps."""
    return joined(kept[values[0]].done())


def answer_beads(kept, values):
    """Tell how many beads came in, hopped, went out."""
    return joined(kept[values[0]].counts())


def answer_chance(kept, values):
    """Tell the chance of a wall."""
    name, wall = values
    return str(kept[name].chance(wall))


def answer_weight(kept, values):
    """Tell the weight of the row."""
    walk = kept[values[0]]
    return str(weight(walk.row(), walk.inn, walk.out))


def answer_often(kept, values):
    """Tell the chance of the row."""
    walk = kept[values[0]]
    return str(row_chance(walk.row(), walk.inn, walk.out))


def answer_heaps(kept, values):
    """Tell how many heaps the row has."""
    return str(heaps_many(kept[values[0]].row()))


def answer_heap(kept, values):
    """Tell the heap of a number."""
    name, number = values
    filled = heap_at(kept[name].row(), number)
    return "; ".join([joined(each) for each in filled]) if filled else NOTHING


def answer_total(kept, values):
    """Tell the total of so many places."""
    many, inn, out = values
    return str(total(many, inn, out))


def answer_through(kept, values):
    """Tell what goes through so many places."""
    many, inn, out = values
    return str(through(many, inn, out))


def answer_bead(kept, values):
    """Tell the chance of a bead at a place of so many."""
    many, place, inn, out = values
    return str(bead_chance(many, place, inn, out))


def answer_ring(kept, values):
    """Tell the weight of a ring."""
    return str(ring_weight(values[0]))


ANSWERS = {
    "row": answer_row,
    "drop": answer_drop,
    "names": answer_names,
    "step": answer_step,
    "back": answer_back,
    "shown": answer_shown,
    "open": answer_walls,
    "done": answer_done,
    "beads": answer_beads,
    "chance": answer_chance,
    "weight": answer_weight,
    "often": answer_often,
    "heaps": answer_heaps,
    "heap": answer_heap,
    "total": answer_total,
    "through": answer_through,
    "bead": answer_bead,
    "ring": answer_ring,
}


class Desk:
    """Walks that are kept by names."""

    def __init__(self):
        self.kept = {}

    def say(self, row):
        """Tell the answer to a row of words."""
        words = words_in(row)
        order = words[0]
        kinds = SHAPES[order]
        if "NAME" in kinds and order != MAKING and words[1] not in self.kept:
            raise NoName(words[1])
        values = [value_of(word, kind) for word, kind in zip(words[1:], kinds)]
        answer = ANSWERS[order]
        return answer(self.kept, values)
