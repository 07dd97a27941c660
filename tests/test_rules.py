import unittest

from boughdraw.places import drawn
from boughdraw.rules import broken, unlike, width_of
from tests.helper import (all_forms, deep_form, fine_form, formed, grown, leaf, line, listed, shape, strewn, turned,
                          wide_form)

FAR = 123456789012345678901234567890
FORMS = (all_forms(6, ["a", "bc", "defgh"]) + [line(9), wide_form(), deep_form(), fine_form()]
         + [formed(strewn(seed, seed)) for seed in range(1, 41)])

# 0 has the children 1, 4 and 7; 1 has 2 and 3, 4 has 5 and 6, each a single letter but for 6.
TREE = grown(("r", 1, [("a", 1, [leaf("b"), leaf("c")]), ("d", 1, [leaf("e"), leaf("fgh")]), leaf("i")]))


def broken_by_words(form, places, gap, unit):
    """What is broken, from the forms of the nodes and their levels."""
    nodes = listed(form)
    found = []
    for level in range(9):
        there = [number for number, node in enumerate(nodes) if node[2] == level]
        for one, other in zip(there, there[1:]):
            reach = len(nodes[one][0][0]) // 2 + len(nodes[other][0][0]) // 2
            if places[other] - places[one] < unit * (reach + gap + 1):
                found.append(("gap", one, other))
    for number in range(len(nodes)):
        below = [place for place, node in zip(places, nodes) if node[1] == number]
        if below and places[number] * 2 != below[0] + below[-1]:
            found.append(("middle", number))
    return found


def unlike_by_words(form, places):
    nodes = listed(form)
    steps = []
    for number in range(len(nodes)):
        below = [place for place, node in zip(places, nodes) if node[1] == number]
        steps.append([behind - ahead for ahead, behind in zip(below, below[1:])])
    found = []
    for one in range(len(nodes)):
        for other in range(one, len(nodes)):
            first = nodes[one][0]
            second = nodes[other][0]
            if len(first[2]) > 1 and len(second[2]) > 1:
                if shape(first) == shape(second) and steps[one] != steps[other]:
                    found.append((one, other, "like"))
                if shape(first) == shape(turned(second)) and steps[one] != steps[other][::-1]:
                    found.append((one, other, "mirrored"))
    return found


class TestBroken(unittest.TestCase):
    def places(self, changes=(), unit=2):
        """A drawing of TREE by the rules with gap 1, in a unit that is even, with some places moved."""
        told = [unit // 2 * halves for halves in (9, 2, 0, 4, 11, 8, 14, 16)]
        for node, more in changes:
            told[node] += more
        return told

    def test_a_drawing_by_the_rules(self):
        self.assertEqual(broken(TREE, self.places(), 1, 2), [])
        self.assertEqual(broken(TREE, self.places(unit=256), 1), [])
        self.assertEqual(broken(TREE, self.places(unit=256), 1, 256), [])
        self.assertEqual(broken(TREE, self.places(unit=256), 1, unit=256), [])
        self.assertEqual(broken(TREE, [2 * place for place in self.places()], 1, 4), [])

    def test_one_node_breaks_nothing(self):
        for place in (0, 5, -7, FAR, -FAR):
            self.assertEqual(broken([(-1, "abc", 1)], [place], 1), [])
            self.assertEqual(broken([(-1, "abc", 1)], [place], 20, 1), [])

    def test_quick_drawings_break_nothing(self):
        for form in FORMS:
            tree = grown(form)
            for gap in (1, 2, 20):
                self.assertEqual(broken(tree, drawn(tree, gap), gap), [], (tree, gap))

    def test_just_far_enough_and_too_near_by_one_part(self):
        for unit in (1, 2, 3, 255, 256, 257, 1000, FAR):
            for gap in (1, 2, 20):
                for one, other, reach in (("a", "b", 0), ("abc", "d", 1), ("a", "bcdef", 2), ("abcdefghi", "jk", 5)):
                    tree = [(-1, "r", 1), (0, one, 1), (0, other, 1)]
                    far = unit * (reach + gap + 1)
                    with self.subTest(unit=unit, gap=gap, one=one, other=other):
                        self.assertEqual(broken(tree, [far, 0, 2 * far], gap, unit), [])
                        near = [("gap", 1, 2), ("middle", 0)]
                        self.assertEqual(broken(tree, [far, 0, far - 1], gap, unit), near)
                        self.assertNotIn(("gap", 1, 2), broken(tree, [far, 0, far], gap, unit))
                        self.assertEqual(broken(tree, [0, -far, far], gap, unit), [])

    def test_an_elder_out_of_the_middle_by_one_part(self):
        for more in (-1, 1):
            self.assertEqual(broken(TREE, self.places([(0, more)]), 1, 2), [("middle", 0)])
        self.assertEqual(broken(TREE, self.places([(1, -1)]), 1, 2), [("middle", 0), ("middle", 1)])
        # Below a single child the elder stands out of the middle as well.
        self.assertEqual(broken(grown(line(3)), [5, 5, 6], 1), [("middle", 1)])
        self.assertEqual(broken(grown(line(3)), [5, 6, 6], 1), [("middle", 0)])
        self.assertEqual(broken(grown(line(3)), [5, 6, 5], 1), [("middle", 0), ("middle", 1)])

    def test_children_between_first_and_last_are_not_asked_for_the_middle(self):
        tree = [(-1, "r", 1), (0, "a", 1), (0, "b", 1), (0, "c", 1)]
        self.assertEqual(broken(tree, [5, 0, 2, 10], 1, 1), [])
        self.assertEqual(broken(tree, [5, 0, 8, 10], 1, 1), [])
        self.assertEqual(broken(tree, [5, 0, 9, 10], 1, 1), [("gap", 2, 3)])
        self.assertEqual(broken(tree, [5, 0, 1, 10], 1, 1), [("gap", 1, 2)])

    def test_an_odd_sum_has_no_whole_middle(self):
        tree = [(-1, "r", 1), (0, "a", 1), (0, "b", 1)]
        self.assertEqual(broken(tree, [1, 0, 3], 1, 1), [("middle", 0)])
        self.assertEqual(broken(tree, [2, 0, 3], 1, 1), [("middle", 0)])
        self.assertEqual(broken(tree, [3, 0, 6], 1, 2), [])

    def test_neighbours_under_unlike_elders(self):
        told = broken(TREE, self.places([(3, 1)]), 1, 2)
        self.assertEqual(told, [("gap", 3, 5), ("middle", 1)])

    def test_wrong_order_on_a_level(self):
        tree = [(-1, "r", 1), (0, "a", 1), (0, "b", 1)]
        self.assertEqual(broken(tree, [0, 1000, -1000], 1), [("gap", 1, 2)])

    def test_nodes_with_one_between_are_no_neighbours(self):
        tree = [(-1, "r", 1), (0, "a", 1), (0, "b", 1), (0, "c", 1)]
        self.assertEqual(broken(tree, [0, 0, 1000, 0], 1), [("gap", 2, 3)])

    def test_all_that_is_broken_in_its_order(self):
        told = broken(TREE, [1, 0, 0, 0, 0, 0, 0, 0], 1)
        wanted = [("gap", 1, 4), ("gap", 4, 7), ("gap", 2, 3), ("gap", 3, 5), ("gap", 5, 6), ("middle", 0)]
        self.assertEqual(told, wanted)
        self.assertEqual([type(one) for one in told], [tuple] * 6)
        told = broken(TREE, [1, 7, 0, 0, -7, 0, 0, 0], 1, 1)
        wanted = [("gap", 1, 4), ("gap", 2, 3), ("gap", 3, 5), ("gap", 5, 6)]
        self.assertEqual(told, wanted + [("middle", 0), ("middle", 1), ("middle", 4)])

    def test_numbers_of_thirty_figures(self):
        tree = [(-1, "r", 1), (0, "abc", 1), (0, "d", 1)]
        self.assertEqual(broken(tree, [0, -FAR, FAR], 1), [])
        self.assertEqual(broken(tree, [1, -FAR, FAR], 1), [("middle", 0)])
        self.assertEqual(broken(tree, [FAR, FAR - 384, FAR + 384], 1), [])
        self.assertEqual(broken(tree, [FAR, FAR - 383, FAR + 383], 1), [("gap", 1, 2)])
        self.assertEqual(broken(tree, [FAR, FAR, FAR], 1), [("gap", 1, 2)])
        self.assertEqual(broken(tree, [0, -3 * FAR, 3 * FAR], 1, 2 * FAR), [])
        self.assertEqual(broken(tree, [0, -3 * FAR + 1, 3 * FAR - 1], 1, 2 * FAR), [("gap", 1, 2)])

    def test_moved_drawings_by_the_words(self):
        for form in FORMS:
            tree = grown(form)
            for unit in (256, 512):
                places = [unit // 256 * place for place in drawn(tree, 2)]
                for node in range(len(tree)):
                    moved = list(places)
                    moved[node] += node % 5 - 2
                    for gap in (1, 2, 3):
                        told = broken(tree, moved, gap, unit)
                        self.assertEqual(told, broken_by_words(form, moved, gap, unit), (tree, moved, gap, unit))


class TestUnlike(unittest.TestCase):
    def told(self, children, places):
        """Unlike pairs in a tree with these children of the root, which has no likeness with itself."""
        return unlike(grown(("r", 1, children + [leaf("abcdefghi")])), [0] + places + [9000])

    def test_like_and_mirrored_at_once(self):
        pair = ("a", 1, [leaf("b"), leaf("c")])
        self.assertEqual(self.told([pair, pair], [0, 0, 512, 0, 1024, 1536]), [])
        wanted = [(1, 4, "like"), (1, 4, "mirrored")]
        self.assertEqual(self.told([pair, pair], [0, 0, 512, 0, 1024, 1537]), wanted)

    def test_like_alone(self):
        one = ("a", 1, [leaf("b"), leaf("c"), leaf("de")])
        other = ("x", 5, [leaf("y", 2), leaf("z"), leaf("uvw", 9)])
        self.assertEqual(self.told([one, other], [0, 0, 500, 800, 0, 2000, 2500, 2800]), [])
        self.assertEqual(self.told([one, other], [0, 0, 500, 800, 0, 2000, 2300, 2800]), [(1, 5, "like")])
        self.assertEqual(self.told([one, other], [0, 0, 500, 800, 0, 2000, 2500, 2801]), [(1, 5, "like")])

    def test_mirrored_alone(self):
        one = ("a", 1, [leaf("b"), leaf("c"), leaf("de")])
        other = ("x", 5, [leaf("uvw", 2), leaf("z"), leaf("y", 9)])
        self.assertEqual(self.told([one, other], [0, 0, 500, 800, 0, 2000, 2300, 2800]), [])
        self.assertEqual(self.told([one, other], [0, 0, 500, 800, 0, 2000, 2500, 2800]), [(1, 5, "mirrored")])
        self.assertEqual(self.told([one, other], [0, 0, 500, 800, 0, 2000, 2300, 2799]), [(1, 5, "mirrored")])

    def test_a_node_with_itself(self):
        one = ("a", 1, [leaf("b"), leaf("c"), leaf("d")])
        self.assertEqual(self.told([one], [0, 0, 500, 1000]), [])
        self.assertEqual(self.told([one], [0, 0, 500, 1001]), [(1, 1, "mirrored")])
        four = ("a", 1, [leaf("bc"), leaf("d"), leaf("e"), leaf("fg")])
        self.assertEqual(self.told([four], [0, 0, 500, 700, 1200]), [])
        self.assertEqual(self.told([four], [0, 0, 500, 700, 1201]), [(1, 1, "mirrored")])

    def test_a_pair_by_mirrored_where_the_steps_are_the_same(self):
        one = ("a", 1, [leaf("b"), leaf("c"), leaf("d")])
        told = self.told([one, one], [0, 0, 500, 1200, 0, 2000, 2500, 3200])
        self.assertEqual(told, [(1, 1, "mirrored"), (1, 5, "mirrored"), (5, 5, "mirrored")])
        told = self.told([one, one], [0, 0, 500, 1200, 0, 2000, 2700, 3200])
        self.assertEqual(told, [(1, 1, "mirrored"), (1, 5, "like"), (5, 5, "mirrored")])

    def test_boughs_that_are_not_alike(self):
        one = ("a", 1, [leaf("b"), leaf("c")])
        self.assertEqual(self.told([one, ("d", 1, [leaf("e"), leaf("fg")])], [0, 0, 500, 0, 2000, 3000]), [])
        self.assertEqual(self.told([one, ("de", 1, [leaf("f"), leaf("g")])], [0, 0, 500, 0, 2000, 3000]), [])

    def test_single_children_and_leaves_are_left_out(self):
        self.assertEqual(unlike(grown(line(9)), [0, 5, 3, 8, 1, 9, -4, 6, 7]), [])
        self.assertEqual(unlike([(-1, "a", 1)], [7]), [])
        self.assertEqual(self.told([line(2), line(2)], [0, 5, 100, 700]), [])

    def test_unlike_steps_deeper_down(self):
        inner = ("a", 1, [leaf("b"), leaf("cd")])
        tree = grown(("r", 1, [("x", 1, [inner, leaf("e")]), ("y", 1, [inner, leaf("f")]), leaf("abcdefghi")]))
        # x is 1, its child a is 2; y is 6, its child a is 7.
        places = [0, 0, 0, 0, 700, 1000, 5000, 5000, 5000, 5701, 6000, 9000]
        self.assertEqual(unlike(tree, places), [(2, 7, "like")])
        places[10] = 6001
        self.assertEqual(unlike(tree, places), [(1, 6, "like"), (2, 7, "like")])

    def test_where_the_boughs_stand_says_nothing(self):
        pair = ("a", 1, [leaf("b"), leaf("c")])
        self.assertEqual(self.told([pair, pair], [-77, 0, 512, 31, -1024, -512]), [])

    def test_steps_of_nought_and_below(self):
        pair = ("a", 1, [leaf("b"), leaf("c")])
        wanted = [(1, 4, "like"), (1, 4, "mirrored")]
        self.assertEqual(self.told([pair, pair], [0, 0, 0, 0, 5, 5]), [])
        self.assertEqual(self.told([pair, pair], [0, 512, 0, 0, 0, 512]), wanted)

    def test_numbers_of_thirty_figures(self):
        pair = ("a", 1, [leaf("b"), leaf("c")])
        self.assertEqual(self.told([pair, pair], [0, -FAR, FAR, 0, 0, 2 * FAR]), [])
        wanted = [(1, 4, "like"), (1, 4, "mirrored")]
        self.assertEqual(self.told([pair, pair], [0, -FAR, FAR, 0, 0, 2 * FAR + 1]), wanted)

    def test_sorted(self):
        tree = grown(wide_form())
        told = unlike(tree, [node * node for node in range(40)])
        self.assertEqual(told, sorted(told))
        self.assertEqual([type(pair) for pair in told], [tuple] * len(told))
        elders = range(1, 40, 3)
        wanted = [(one, other, "like") for one in elders for other in elders if one < other]
        self.assertEqual([pair for pair in told if pair[0] > 0], wanted)
        self.assertEqual([pair for pair in told if pair[0] == 0], [])

    def test_quick_drawings_have_none(self):
        for form in FORMS:
            tree = grown(form)
            for gap in (1, 20):
                self.assertEqual(unlike(tree, drawn(tree, gap)), [], (tree, gap))

    def test_moved_drawings_by_the_words(self):
        pair = ("a", 1, [leaf("b"), leaf("c"), leaf("d")])
        more = [("r", 1, [pair, pair, pair]), ("r", 1, [pair, leaf("x"), pair, leaf("y"), pair])]
        for form in FORMS + more:
            tree = grown(form)
            places = drawn(tree, 1)
            for node in range(len(tree)):
                moved = [place + (number * node) % 3 for number, place in enumerate(places)]
                self.assertEqual(unlike(tree, moved), unlike_by_words(form, moved), (tree, moved))


class TestWidth(unittest.TestCase):
    def test_one_node(self):
        self.assertEqual(width_of([(-1, "a", 1)], [0]), 256)
        self.assertEqual(width_of([(-1, "a", 1)], [-999]), 256)
        self.assertEqual(width_of([(-1, "abc", 1)], [7], 1), 3)
        self.assertEqual(width_of([(-1, "abcdefghi", 1)], [FAR], FAR), 9 * FAR)

    def test_units(self):
        tree = [(-1, "a", 1), (0, "bcd", 1), (0, "e", 1)]
        for unit in (1, 2, 256, 1000, FAR):
            with self.subTest(unit):
                places = [0, -2 * unit, 2 * unit]
                self.assertEqual(width_of(tree, places, unit), 6 * unit)
                self.assertEqual(width_of(tree, [place + 31 for place in places], unit=unit), 6 * unit)
        self.assertEqual(width_of(tree, [0, -512, 512]), 6 * 256)

    def test_the_ends_are_not_those_of_the_outermost_places(self):
        tree = [(-1, "abcdefghi", 1), (0, "b", 1), (0, "c", 1)]
        self.assertEqual(width_of(tree, [256, 0, 512]), 9 * 256)
        tree = [(-1, "a", 1), (0, "bcdefghij", 1), (1, "c", 1)]
        self.assertEqual(width_of(tree, [-10, 0, 10], 10), 90)

    def test_any_drawing_has_a_width(self):
        self.assertEqual(width_of([(-1, "a", 1), (0, "b", 1), (0, "c", 1)], [0, FAR, -FAR], 1), 2 * FAR + 1)

    def test_quick_drawings(self):
        self.assertEqual(width_of(grown(line(9)), drawn(grown(line(9)), 1)), 256)
        for form in FORMS:
            tree = grown(form)
            places = drawn(tree, 3)
            right = max(place + 256 * (len(row[1]) // 2) for place, row in zip(places, tree))
            self.assertEqual(width_of(tree, places), right + 256)
            self.assertEqual(width_of(tree, [4 * place for place in places], 1024), 4 * right + 1024)


if __name__ == "__main__":
    unittest.main()
