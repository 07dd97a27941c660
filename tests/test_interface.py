"""The names, arguments and defaults of the document's interface are there as they stand."""

import importlib
import inspect
import unittest

from boughdraw.hung import hung_rows
from boughdraw.places import drawn, outline_of, tops
from boughdraw.rules import broken, unlike, width_of
from boughdraw.texts import tree_text
from tests.helper import grown, leaf, line

INTERFACE = {
    "trees": ["made_tree(rows)", "children_of(tree, node)", "levels_of(tree)", "reaches(tree)"],
    "boughs": ["bough_of(tree, node)", "mirrored(tree)", "likeness(tree, one, other)"],
    "texts": ["tree_text(tree)", "read_tree(text)"],
    "hung": ["hung_rows(tree)", "read_hung(rows)"],
    "room": ["nearest(one, other, gap)", "room_of(outlines, gap)"],
    "places": ["drawn(tree, gap)", "outline_of(tree, node, gap)", "tops(tree, between=1)"],
    "rules": ["broken(tree, places, gap, unit=256)", "unlike(tree, places)", "width_of(tree, places, unit=256)"],
}


class TestInterface(unittest.TestCase):
    def test_names_arguments_and_defaults(self):
        for module, functions in INTERFACE.items():
            for told in functions:
                with self.subTest(told):
                    name = told.partition("(")[0]
                    function = getattr(importlib.import_module("boughdraw." + module), name)
                    self.assertEqual(name + str(inspect.signature(function)), told)

    def test_trees_somewhat_beyond_the_bounds_are_not_refused(self):
        wide = ("r", 10, [leaf("a")] * 41)
        for form, middle in ((wide, 40 * 256), (line(11), 0), (leaf("abcdefghijk", 12), 5 * 256)):
            tree = grown(form)
            places = drawn(tree, 1)
            with self.subTest(tree):
                self.assertEqual(places[0], middle)
                self.assertEqual(broken(tree, places, 1), [])
                self.assertEqual(unlike(tree, places), [])
                self.assertEqual(len(hung_rows(tree)), len(tree))
                self.assertEqual(len(tops(tree)), len(outline_of(tree, 0, 1)))
        self.assertEqual(tree_text([(-1, "abcdefghijk", 12)]), "abcdefghijk*12")

    def test_gaps_and_rows_between_somewhat_beyond_the_bounds_are_not_refused(self):
        tree = grown(("r", 1, [leaf("a"), leaf("b")]))
        self.assertEqual(drawn(tree, 0), [128, 0, 256])
        self.assertEqual(drawn(tree, 21), [11 * 256, 0, 22 * 256])
        self.assertEqual(outline_of(tree, 0, 21), [(0, 0), (-11 * 256, 11 * 256)])
        self.assertEqual(broken(tree, [128, 0, 256], 0), [])
        self.assertEqual(tops(tree, 0), [0, 1])
        self.assertEqual(tops(tree, 21), [0, 22])
        self.assertEqual(width_of(tree, drawn(tree, 21)), 23 * 256)


if __name__ == "__main__":
    unittest.main()
