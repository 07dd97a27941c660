import unittest
from fractions import Fraction

from boughdraw.boughs import bough_of, mirrored
from boughdraw.errors import NoNode
from boughdraw.places import drawn, outline_of, tops
from boughdraw.trees import made_tree
from tests.helper import (all_forms, deep_form, fine_form, formed, grown, leaf, line, listed, shape, strewn, turned,
                          wide_form)

THIRTY = 10 ** 29
ROW = ("a", 1, [leaf("b"), leaf("c"), leaf("d")])
FORMS = (all_forms(6, ["a"]) + all_forms(6, ["a", "bc", "defghijkl", "m", "nopqr"])
         + [line(9), wide_form(), deep_form(), fine_form()] + [formed(strewn(seed, seed)) for seed in range(1, 41)])
SMALL = all_forms(5, ["a", "bcd"]) + [fine_form(), deep_form(), formed(strewn(7, 40)), formed(strewn(8, 40))]


def piece(form, gap):
    """The nodes of a form, quickly drawn, as (level, place, reach) with the root at 0; halves are kept as they are."""
    inner = [piece(child, gap) for child in form[2]]
    nodes = [(0, Fraction(0), len(form[0]) // 2 * 256)]
    if inner:
        earliest = first_places(inner, gap)
        # Seen in a mirror, the latest places are the earliest ones from the other side.
        latest = [earliest[-1] - place for place in first_places([seen(part) for part in inner[::-1]], gap)[::-1]]
        stands = [(early + late) / 2 for early, late in zip(earliest, latest)]
        middle = (stands[0] + stands[-1]) / 2
        for part, stand in zip(inner, stands):
            nodes.extend((level + 1, place + stand - middle, reach) for level, place, reach in part)
    return nodes


def seen(part):
    return [(level, -place, reach) for level, place, reach in part]


def first_places(parts, gap):
    places = [Fraction(0)]
    for number in range(1, len(parts)):
        places.append(max(place + apart(part, parts[number], gap) for place, part in zip(places, parts)))
    return places


def apart(one, other, gap):
    """How far apart two pieces must stand, from each two nodes of one level."""
    return max(first[1] + first[2] - second[1] + second[2] + 256 * (gap + 1)
               for first in one for second in other if first[0] == second[0])


def expected_places(form, gap):
    nodes = piece(form, gap)
    least = min(place - reach for level, place, reach in nodes)
    return [place - least for level, place, reach in nodes]


def outline_by_nodes(tree, places, node):
    """The outline of a node's bough, from the places of its nodes in a drawing."""
    found = {}
    levels = {-1: -1}
    inside = {node: True}
    for number, row in enumerate(tree):
        levels[number] = levels[row[0]] + 1
        if number == node or row[0] in inside:
            inside[number] = True
            reach = 256 * (len(row[1]) // 2)
            ends = (places[number] - reach - places[node], places[number] + reach - places[node])
            found.setdefault(levels[number] - levels[node], []).append(ends)
    return [(min(ends[0] for ends in found[level]), max(ends[1] for ends in found[level])) for level in sorted(found)]


class TestDrawnByHand(unittest.TestCase):
    def hold(self, form, gap, places):
        tree = made_tree(grown(form))
        self.assertEqual(drawn(tree, gap), places)

    def test_one_node(self):
        self.hold(leaf("a"), 1, [0])
        self.hold(leaf("ab"), 1, [256])
        self.hold(leaf("abcdefghi", 9), 20, [1024])

    def test_a_single_child_stands_right_below(self):
        self.hold(line(2), 1, [0, 0])
        self.hold(("a", 1, [leaf("bcdef")]), 1, [512, 512])
        self.hold(("abcde", 1, [leaf("f")]), 20, [512, 512])
        self.hold(line(9), 7, [0] * 9)

    def test_two_and_three_children(self):
        self.hold(("a", 1, [leaf("b"), leaf("c")]), 1, [256, 0, 512])
        self.hold(("a", 1, [leaf("b"), leaf("c")]), 20, [2688, 0, 5376])
        self.hold(ROW, 1, [512, 0, 512, 1024])
        self.hold(("a", 1, [leaf("b"), leaf("cd")]), 1, [384, 0, 768])
        self.hold(("a", 1, [leaf("bcd"), leaf("efghi"), leaf("j")]), 2, [1664, 256, 1792, 3072])

    def test_the_root_may_reach_farthest_to_the_left(self):
        self.hold(("abcdefghi", 1, [leaf("b"), leaf("c")]), 1, [1024, 768, 1280])

    def test_outlines_that_touch_on_a_deeper_level(self):
        self.hold(("r", 1, [ROW, ROW]), 1, [1280, 512, 0, 512, 1024, 2048, 1536, 2048, 2560])
        left = ("a", 1, [("b", 1, [leaf("cdefg")])])
        self.hold(("r", 1, [left, left]), 1, [1280, 512, 512, 512, 2048, 2048, 2048])

    def test_a_deep_bough_far_ahead_is_heard(self):
        # The second child has no second level, so the third meets the first there.
        self.hold(("r", 1, [ROW, leaf("x"), ROW]), 1, [1280, 512, 0, 512, 1024, 1280, 2048, 1536, 2048, 2560])

    def test_children_halfway_between(self):
        wide = ("a", 1, [leaf("b")] * 4)
        # Two leaves between two boughs that are 2048 apart: 512 to 1024, and 1024 to 1536.
        self.hold(("r", 1, [wide, leaf("x"), leaf("y"), wide]), 1,
                  [1792, 768, 0, 512, 1024, 1536, 1536, 2048, 2816, 2048, 2560, 3072, 3584])
        # A broader leaf has 768 alone.
        self.hold(("r", 1, [ROW, leaf("xyz"), ROW]), 1, [1280, 512, 0, 512, 1024, 1280, 2048, 1536, 2048, 2560])

    def test_a_half_of_odd_cells(self):
        # The leaf may stand from 768 on to 1920 - 512, so 1088 behind the first child.
        mixed = ("abc", 1, [leaf("b"), leaf("c"), leaf("de")])
        self.hold(("r", 1, [mixed, leaf("x"), ROW]), 1, [1600, 640, 0, 512, 1280, 1728, 2560, 2048, 2560, 3072])

    def test_single_shreds_on_level_eight(self):
        places = drawn(grown(fine_form()), 1)
        self.assertTrue(any(place % 2 == 1 for place in places))
        self.assertEqual([type(place) for place in places], [int] * 24)


class TestDrawn(unittest.TestCase):
    def test_every_form_by_the_words(self):
        for form in FORMS:
            tree = made_tree(grown(form))
            for gap in (1, 2, 20):
                with self.subTest(tree=tree, gap=gap):
                    places = drawn(tree, gap)
                    self.assertIs(type(places), list)
                    self.assertEqual([type(place) for place in places], [int] * len(tree))
                    self.assertEqual(places, expected_places(form, gap))

    def test_the_least_place_less_reach_is_0(self):
        for form in FORMS:
            tree = grown(form)
            for gap in (1, 20):
                places = drawn(tree, gap)
                self.assertEqual(min(place - len(row[1]) // 2 * 256 for place, row in zip(places, tree)), 0, tree)

    def test_order_and_gap_for_every_two_nodes(self):
        for form in FORMS:
            for gap in (1, 20):
                nodes = [(found[2], place, len(found[0][0]) // 2 * 256)
                         for found, place in zip(listed(form), drawn(grown(form), gap))]
                for number, one in enumerate(nodes):
                    for other in nodes[number + 1:]:
                        if one[0] == other[0]:
                            room = other[1] - other[2] - one[1] - one[2] - 256
                            self.assertGreaterEqual(room, 256 * gap, (form, gap))

    def test_each_elder_in_the_middle(self):
        for form in FORMS:
            tree = grown(form)
            for gap in (1, 20):
                places = drawn(tree, gap)
                for node in range(len(tree)):
                    below = [places[number] for number, row in enumerate(tree) if row[0] == node]
                    if below:
                        self.assertEqual(2 * places[node], below[0] + below[-1], (tree, gap, node))

    def test_a_bough_is_drawn_as_by_itself(self):
        for form in SMALL:
            tree = grown(form)
            for gap in (1, 20):
                places = drawn(tree, gap)
                for node in range(len(tree)):
                    own = drawn(bough_of(tree, node), gap)
                    there = places[node:node + len(own)]
                    self.assertEqual([place - own[0] for place in own], [place - there[0] for place in there])

    def test_the_mirrored_trees_drawing_is_the_mirrored_drawing(self):
        for form in FORMS:
            tree = grown(form)
            for gap in (1, 20):
                with self.subTest(tree=tree, gap=gap):
                    places = drawn(tree, gap)
                    right = max(place + len(row[1]) // 2 * 256 for place, row in zip(places, tree))
                    told = mirrored(tree)
                    self.assertEqual(drawn(told[0], gap), [right - places[number] for number in told[1]])
                    self.assertEqual(sorted(drawn(grown(turned(form)), gap)), sorted(right - p for p in places))

    def test_like_boughs_are_drawn_alike(self):
        for form in SMALL + [wide_form()]:
            places = drawn(grown(form), 3)
            known = {}
            for node, found in enumerate(listed(form)):
                count = len(listed(found[0]))
                told = [place - places[node] for place in places[node:node + count]]
                self.assertEqual(known.setdefault(repr(shape(found[0])), told), told)
                mirror = [-place for place in drawn(grown(turned(found[0])), 3)]
                order = mirrored(grown(turned(found[0])))[1]
                self.assertEqual([mirror[number] - mirror[0] for number in order], told)


class TestOutlineOf(unittest.TestCase):
    def test_by_hand(self):
        tree = grown(("r", 1, [ROW, leaf("xyz"), ROW]))
        self.assertEqual(outline_of(tree, 0, 1), [(0, 0), (-768, 768), (-1280, 1280)])
        self.assertEqual(outline_of(tree, 1, 1), [(0, 0), (-512, 512)])
        self.assertEqual(outline_of(tree, 2, 1), [(0, 0)])
        self.assertEqual(outline_of(tree, 5, 1), [(-256, 256)])
        self.assertEqual(outline_of(tree, 6, 20), [(0, 0), (-5376, 5376)])

    def test_a_single_child_and_unlike_sides(self):
        self.assertEqual(outline_of([(-1, "a", 1), (0, "bcd", 1)], 0, 1), [(0, 0), (-256, 256)])
        self.assertEqual(outline_of([(-1, "abc", 1), (0, "b", 1), (0, "cd", 1)], 0, 1), [(-256, 256), (-384, 640)])

    def test_a_level_that_only_one_child_has(self):
        tree = grown(("a", 1, [leaf("b"), ("c", 1, [leaf("d"), leaf("e"), leaf("f")])]))
        self.assertEqual(outline_of(tree, 0, 1), [(0, 0), (-256, 256), (256 - 512, 256 + 512)])
        self.assertEqual(outline_of(mirrored(tree)[0], 0, 1), [(0, 0), (-256, 256), (-768, 256)])

    def test_each_node_of_every_form(self):
        for form in FORMS:
            tree = grown(form)
            for gap in (1, 20):
                places = drawn(tree, gap)
                for node in range(len(tree)):
                    told = outline_of(tree, node, gap)
                    self.assertEqual(told, outline_by_nodes(tree, places, node), (tree, gap, node))
                    self.assertEqual({type(ends) for ends in told}, {tuple})

    def test_numbers_that_no_node_has(self):
        for form in (leaf(), line(9), wide_form()):
            tree = grown(form)
            for node in (-1, -2, -len(tree), len(tree), len(tree) + 1, THIRTY, -THIRTY, THIRTY * 9, -THIRTY * 9):
                for gap in (1, 20, 0, -1, THIRTY):
                    with self.subTest(tree=tree, node=node, gap=gap), self.assertRaises(NoNode):
                        outline_of(tree, node, gap)


class TestTops(unittest.TestCase):
    TREE = [(-1, "a", 3), (0, "b", 1), (1, "c", 2), (0, "d", 9), (0, "e", 4), (4, "f", 5), (5, "g", 7)]

    def test_rows_between_left_out(self):
        self.assertEqual(tops(self.TREE), [0, 4, 14, 20])

    def test_rows_between_told(self):
        self.assertEqual(tops(self.TREE, 1), [0, 4, 14, 20])
        self.assertEqual(tops(self.TREE, 2), [0, 5, 16, 23])
        self.assertEqual(tops(self.TREE, 20), [0, 23, 52, 77])
        self.assertEqual(tops(self.TREE, between=20), [0, 23, 52, 77])

    def test_one_node(self):
        self.assertEqual(tops([(-1, "a", 9)]), [0])
        self.assertEqual(tops([(-1, "a", 9)], 20), [0])

    def test_a_line_of_nine(self):
        self.assertEqual(tops(grown(line(9))), list(range(0, 18, 2)))
        self.assertEqual(tops(grown(line(9)), 19), list(range(0, 180, 20)))

    def test_every_form_by_the_words(self):
        for form in FORMS:
            nodes = listed(form)
            for between in (1, 5, 20):
                above = tops(grown(form), between)
                self.assertEqual(len(above), max(found[2] for found in nodes) + 1)
                self.assertEqual(above[0], 0)
                for level in range(1, len(above)):
                    tallest = max(found[0][1] for found in nodes if found[2] == level - 1)
                    self.assertEqual(above[level] - above[level - 1], tallest + between)


if __name__ == "__main__":
    unittest.main()
