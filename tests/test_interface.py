"""The interface: each name and argument that has landed exists as the document lists it."""

import importlib
import inspect
import unittest

NO_DEFAULT = inspect.Parameter.empty

FUNCTIONS = [
    ("hopline.parts", "is_whole", [("thing", NO_DEFAULT)]),
    ("hopline.parts", "read_part", [("text", NO_DEFAULT)]),
    ("hopline.rows", "is_row", [("thing", NO_DEFAULT)]),
    ("hopline.rows", "row_number", [("row", NO_DEFAULT)]),
    ("hopline.rows", "row_at", [("many", NO_DEFAULT), ("number", NO_DEFAULT)]),
    ("hopline.rows", "mirrored", [("row", NO_DEFAULT)]),
    ("hopline.rows", "walls_of", [("row", NO_DEFAULT)]),
    ("hopline.rows", "changed", [("row", NO_DEFAULT), ("wall", NO_DEFAULT)]),
    ("hopline.paces", "pace_of", [("row", NO_DEFAULT), ("wall", NO_DEFAULT), ("inn", None), ("out", None)]),
    ("hopline.paces", "changes", [("row", NO_DEFAULT), ("inn", None), ("out", None)]),
    ("hopline.words", "is_word", [("thing", NO_DEFAULT)]),
    ("hopline.words", "places_in", [("word", NO_DEFAULT)]),
    ("hopline.words", "shortened", [("word", NO_DEFAULT), ("place", NO_DEFAULT)]),
    ("hopline.words", "ends_of", [("word", NO_DEFAULT)]),
    ("hopline.weights", "weight", [("row", NO_DEFAULT), ("inn", None), ("out", None)]),
    ("hopline.weights", "ahead_of", [("row", NO_DEFAULT)]),
    ("hopline.weights", "comes", [("row", NO_DEFAULT), ("inn", None), ("out", None)]),
    ("hopline.weights", "goes", [("row", NO_DEFAULT), ("inn", None), ("out", None)]),
    ("hopline.heaps", "cells_of", [("row", NO_DEFAULT)]),
    ("hopline.heaps", "is_heap", [("row", NO_DEFAULT), ("thing", NO_DEFAULT)]),
    ("hopline.heaps", "left_in", [("row", NO_DEFAULT), ("heap", NO_DEFAULT)]),
    ("hopline.heaps", "heap_weight", [("row", NO_DEFAULT), ("heap", NO_DEFAULT), ("inn", None), ("out", None)]),
    ("hopline.courses", "heaps_many", [("row", NO_DEFAULT)]),
    ("hopline.courses", "heap_at", [("row", NO_DEFAULT), ("number", NO_DEFAULT)]),
    ("hopline.courses", "heap_number", [("row", NO_DEFAULT), ("heap", NO_DEFAULT)]),
    ("hopline.courses", "heaps_of", [("row", NO_DEFAULT)]),
    ("hopline.greater", "heap_changed", [("row", NO_DEFAULT), ("heap", NO_DEFAULT), ("wall", NO_DEFAULT)]),
    ("hopline.greater", "heap_back", [("row", NO_DEFAULT), ("heap", NO_DEFAULT), ("wall", NO_DEFAULT)]),
    ("hopline.beneath", "is_beneath", [("row", NO_DEFAULT), ("thing", NO_DEFAULT)]),
    ("hopline.beneath", "beneath_many", [("row", NO_DEFAULT)]),
    ("hopline.beneath", "beneath_at", [("row", NO_DEFAULT), ("number", NO_DEFAULT)]),
    ("hopline.beneath", "beneath_number", [("row", NO_DEFAULT), ("other", NO_DEFAULT)]),
    ("hopline.ways", "is_way", [("thing", NO_DEFAULT)]),
    ("hopline.ways", "way_of", [("row", NO_DEFAULT), ("other", NO_DEFAULT)]),
    ("hopline.ways", "rows_of", [("way", NO_DEFAULT)]),
    ("hopline.ways", "ways_many", [("many", NO_DEFAULT)]),
    ("hopline.totals", "total", [("many", NO_DEFAULT), ("inn", None), ("out", None)]),
    ("hopline.totals", "through", [("many", NO_DEFAULT), ("inn", None), ("out", None)]),
    ("hopline.totals", "row_chance", [("row", NO_DEFAULT), ("inn", None), ("out", None)]),
    ("hopline.chances", "bead_chance", [("many", NO_DEFAULT), ("place", NO_DEFAULT), ("inn", None), ("out", None)]),
    ("hopline.chances", "both_chance",
     [("many", NO_DEFAULT), ("one", NO_DEFAULT), ("other", NO_DEFAULT), ("inn", None), ("out", None)]),
    ("hopline.chances", "wall_chance", [("many", NO_DEFAULT), ("wall", NO_DEFAULT), ("inn", None), ("out", None)]),
    ("hopline.chances", "beads_on", [("many", NO_DEFAULT), ("inn", None), ("out", None)]),
    ("hopline.chances", "number_chances", [("many", NO_DEFAULT), ("inn", None), ("out", None)]),
    ("hopline.mirror", "heap_mirrored", [("row", NO_DEFAULT), ("heap", NO_DEFAULT)]),
    ("hopline.mirror", "way_mirrored", [("way", NO_DEFAULT)]),
    ("hopline.tables", "table", [("many", NO_DEFAULT), ("inn", None), ("out", None)]),
    ("hopline.tables", "is_still", [("many", NO_DEFAULT), ("thing", NO_DEFAULT), ("inn", None), ("out", None)]),
    ("hopline.tables", "times_told", [("many", NO_DEFAULT), ("thing", NO_DEFAULT), ("inn", None), ("out", None)]),
    ("hopline.heaptables", "heap_table", [("many", NO_DEFAULT), ("inn", None), ("out", None)]),
    ("hopline.heaptables", "is_heap_still",
     [("many", NO_DEFAULT), ("thing", NO_DEFAULT), ("inn", None), ("out", None)]),
    ("hopline.rings", "is_ring", [("thing", NO_DEFAULT)]),
    ("hopline.rings", "ring_changes", [("ring", NO_DEFAULT)]),
    ("hopline.rings", "ring_comes", [("ring", NO_DEFAULT)]),
    ("hopline.rings", "ring_goes", [("ring", NO_DEFAULT)]),
    ("hopline.rings", "ring_chance", [("ring", NO_DEFAULT)]),
    ("hopline.lines", "ring_of", [("upper", NO_DEFAULT), ("lower", NO_DEFAULT)]),
    ("hopline.lines", "ring_weight", [("ring", NO_DEFAULT)]),
]

METHODS = [
    ("hopline.parts", "Part", "__init__", [("top", NO_DEFAULT), ("bottom", 1)]),
    ("hopline.parts", "Part", "plus", [("other", NO_DEFAULT)]),
    ("hopline.parts", "Part", "less", [("other", NO_DEFAULT)]),
    ("hopline.parts", "Part", "times", [("other", NO_DEFAULT)]),
    ("hopline.parts", "Part", "over", [("other", NO_DEFAULT)]),
    ("hopline.parts", "Part", "raised", [("many", NO_DEFAULT)]),
    ("hopline.parts", "Part", "is_below", [("other", NO_DEFAULT)]),
    ("hopline.parts", "Part", "__eq__", [("other", NO_DEFAULT)]),
    ("hopline.parts", "Part", "__str__", []),
    ("hopline.parts", "Part", "__repr__", []),
    ("hopline.walks", "Walk", "__init__", [("row", NO_DEFAULT), ("inn", None), ("out", None)]),
    ("hopline.walks", "Walk", "step", [("wall", NO_DEFAULT)]),
    ("hopline.walks", "Walk", "undo", []),
    ("hopline.walks", "Walk", "row", []),
    ("hopline.walks", "Walk", "walls", []),
    ("hopline.walks", "Walk", "done", []),
    ("hopline.walks", "Walk", "counts", []),
    ("hopline.walks", "Walk", "chance", [("wall", NO_DEFAULT)]),
    ("hopline.walks", "Walk", "chances", []),
    ("hopline.walks", "Walk", "twin", []),
    ("hopline.walks", "Walk", "__eq__", [("other", NO_DEFAULT)]),
    ("hopline.walks", "Walk", "__len__", []),
    ("hopline.walks", "Walk", "__str__", []),
    ("hopline.walks", "Walk", "__repr__", []),
    ("hopline.sums", "Sum", "__init__", [("word", NO_DEFAULT)]),
    ("hopline.sums", "Sum", "shorten", [("word", NO_DEFAULT), ("place", NO_DEFAULT)]),
    ("hopline.sums", "Sum", "finish", []),
    ("hopline.sums", "Sum", "is_finished", []),
    ("hopline.sums", "Sum", "words", []),
    ("hopline.sums", "Sum", "__eq__", [("other", NO_DEFAULT)]),
    ("hopline.sums", "Sum", "__len__", []),
    ("hopline.sums", "Sum", "__str__", []),
    ("hopline.heapwalks", "HeapWalk", "__init__", [("row", NO_DEFAULT), ("heap", None)]),
    ("hopline.heapwalks", "HeapWalk", "step", [("wall", NO_DEFAULT)]),
    ("hopline.heapwalks", "HeapWalk", "step_back", [("wall", NO_DEFAULT)]),
    ("hopline.heapwalks", "HeapWalk", "row", []),
    ("hopline.heapwalks", "HeapWalk", "heap", []),
    ("hopline.heapwalks", "HeapWalk", "done", []),
    ("hopline.heapwalks", "HeapWalk", "__eq__", [("other", NO_DEFAULT)]),
    ("hopline.heapwalks", "HeapWalk", "__len__", []),
    ("hopline.heapwalks", "HeapWalk", "__str__", []),
    ("hopline.desk", "Desk", "__init__", []),
    ("hopline.desk", "Desk", "say", [("row", NO_DEFAULT)]),
    ("hopline.errors", "NoWall", "__init__", [("wall", NO_DEFAULT)]),
    ("hopline.errors", "NoName", "__init__", [("name", NO_DEFAULT)]),
]


def arguments(function):
    found = list(inspect.signature(function).parameters.values())
    return [(argument.name, argument.default) for argument in found], {argument.kind for argument in found}


class TestInterface(unittest.TestCase):

    def test_functions(self):
        for module, name, wanted in FUNCTIONS:
            with self.subTest(module=module, name=name):
                found, kinds = arguments(getattr(importlib.import_module(module), name))
                self.assertEqual(found, wanted)
                self.assertLessEqual(kinds, {inspect.Parameter.POSITIONAL_OR_KEYWORD})

    def test_methods_stand_in_the_class_itself(self):
        for module, owner, name, wanted in METHODS:
            with self.subTest(module=module, owner=owner, name=name):
                body = vars(getattr(importlib.import_module(module), owner))
                self.assertIn(name, body)
                found, kinds = arguments(body[name])
                self.assertEqual(found[1:], wanted)
                self.assertLessEqual(kinds, {inspect.Parameter.POSITIONAL_OR_KEYWORD})


if __name__ == "__main__":
    unittest.main()
