"""The names, arguments and defaults of the document's interface are there as they stand."""

import importlib
import inspect
import unittest

from boughdraw.easel import Easel
from boughdraw.hung import hung_rows
from boughdraw.least import narrowest
from boughdraw.places import drawn, outline_of, tops
from boughdraw.pulls import is_paper, leans, worth
from boughdraw.rules import broken, unlike, width_of
from boughdraw.sheets import boxes, lines
from boughdraw.texts import tree_text
from boughdraw.turns import Lying, Standing, Turned
from tests.helper import clashes, grown, leaf, line

INTERFACE = {
    "trees": ["made_tree(rows)", "children_of(tree, node)", "levels_of(tree)", "reaches(tree)"],
    "boughs": ["bough_of(tree, node)", "mirrored(tree)", "likeness(tree, one, other)"],
    "texts": ["tree_text(tree)", "read_tree(text)"],
    "hung": ["hung_rows(tree)", "read_hung(rows)"],
    "room": ["nearest(one, other, gap)", "room_of(outlines, gap)"],
    "places": ["drawn(tree, gap)", "outline_of(tree, node, gap)", "tops(tree, between=1)"],
    "rules": ["broken(tree, places, gap, unit=256)", "unlike(tree, places)", "width_of(tree, places, unit=256)"],
    "pulls": ["leans(tree, pulls)", "is_paper(tree, pulls, strict=False)", "worth(tree, gap, pulls)"],
    "least": ["narrowest(tree, gap, strict=False)"],
    "sheets": ["boxes(tree, gap, between=1)", "lines(tree, gap, between=1)"],
    "turns": ["turned_point(turn, point)", "both_turns(one, other)", "turn_back(turn)", "Standing()", "Lying()",
              "Turned(turn)"],
    "pictures": ["picture(tree, gap)"],
    "readers": ["read_picture(rows, gap)"],
    "easel": ["Easel(tree, gap)"],
}
EASEL = ["whole()", "folded()", "seen()", "drawing()", "redrawn()", "fold(node)", "unfold(node)", "cut(node)",
         "put(elder, place, tree)", "move(node, elder, place)"]


class TestInterface(unittest.TestCase):
    def test_names_arguments_and_defaults(self):
        for module, functions in INTERFACE.items():
            for told in functions:
                with self.subTest(told):
                    name = told.partition("(")[0]
                    function = getattr(importlib.import_module("boughdraw." + module), name)
                    self.assertEqual(name + str(inspect.signature(function)), told)

    def test_methods(self):
        for lay in (Standing(), Lying(), Turned(3)):
            self.assertEqual(str(inspect.signature(lay.spot)), "(point)")
            self.assertEqual(str(inspect.signature(lay.box)), "(box)")
        easel = Easel([(-1, "a", 1)], 1)
        for told in EASEL:
            name = told.partition("(")[0]
            self.assertEqual(name + str(inspect.signature(getattr(easel, name))), told)

    def test_trees_somewhat_beyond_the_bounds_are_not_refused(self):
        wide = ("r", 10, [leaf("a")] * 41)
        for form, middle in ((wide, 40 * 256), (line(11), 0), (leaf("abcdefghijk", 12), 5 * 256)):
            tree = grown(form)
            places = drawn(tree, 1)
            with self.subTest(tree):
                self.assertEqual(places[0], middle)
                self.assertEqual(broken(tree, places, 1), [])
                self.assertEqual(unlike(tree, places), [])
                self.assertEqual(len(hung_rows(tree)), len(tree))
                self.assertEqual(len(tops(tree)), len(outline_of(tree, 0, 1)))
                self.assertEqual(clashes(tree, boxes(tree, 1), lines(tree, 1)), [])
                levels = len(tops(tree))
                pulls = ([1] + [0] * (levels - 1), [1] + [0] * (levels - 1), [0] * len(tree))
                self.assertEqual([any(row) for row in leans(tree, pulls)], [False] * len(tree))
                self.assertIs(is_paper(tree, pulls), True)
                self.assertIs(is_paper(tree, pulls, True), True)
                self.assertEqual(worth(tree, 1, pulls), len(tree[0][1]))
        self.assertEqual(tree_text([(-1, "abcdefghijk", 12)]), "abcdefghijk*12")

    def test_gaps_and_rows_between_somewhat_beyond_the_bounds_are_not_refused(self):
        tree = grown(("r", 1, [leaf("a"), leaf("b")]))
        self.assertEqual(drawn(tree, 0), [128, 0, 256])
        self.assertEqual(drawn(tree, 21), [11 * 256, 0, 22 * 256])
        self.assertEqual(outline_of(tree, 0, 21), [(0, 0), (-11 * 256, 11 * 256)])
        self.assertEqual(broken(tree, [128, 0, 256], 0), [])
        self.assertEqual(tops(tree, 0), [0, 1])
        self.assertEqual(tops(tree, 21), [0, 22])
        self.assertEqual(width_of(tree, drawn(tree, 21)), 23 * 256)
        self.assertEqual(worth(tree, 21, ([0, 1], [0, 1], [0, 0, 1])), 23)
        self.assertEqual([box[:2] for box in boxes(tree, 21, 21)], [(11 * 256, 0), (0, 22 * 256), (22 * 256, 22 * 256)])
        self.assertEqual(lines(tree, 0, 0)[0], ((256, 256), (256, 256), (128, 256)))

    def test_narrowest_drawings_somewhat_beyond_the_bounds_are_not_refused(self):
        for form, gap, width in ((line(12), 1, 1), (leaf("abcdefghijk", 12), 1, 11), (leaf(), 21, 1),
                                 (("r", 1, [leaf("abcdefghijk")] * 3), 21, 75), (("r", 1, [leaf()] * 5), 0, 5)):
            tree = grown(form)
            for strict in (False, True):
                places, unit, pulls = narrowest(tree, gap, strict)
                self.assertEqual(width_of(tree, places, unit), width * unit)
                self.assertEqual(worth(tree, gap, pulls), width * sum(pulls[0]))
                self.assertIs(is_paper(tree, pulls, strict), True)


if __name__ == "__main__":
    unittest.main()
