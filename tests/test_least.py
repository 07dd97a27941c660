import itertools
import time
import unittest
from fractions import Fraction

from boughdraw.boughs import mirrored
from boughdraw.errors import TooMany
from boughdraw.least import narrowest
from boughdraw.places import drawn
from boughdraw.pulls import is_paper, worth
from boughdraw.rules import broken, unlike, width_of
from boughdraw.texts import read_tree
from boughdraw.trees import levels_of
from tests.helper import all_forms, formed, grown, leaf, line, listed, strewn, turned

PAIR = ("a", 1, [leaf("b"), leaf("c")])
TRIPLET = ("a", 1, [leaf("b"), leaf("c"), leaf("def")])
EVEN = ("a", 1, [leaf("b"), leaf("c"), leaf("d")])

# Roots with children that have leaves, like boughs, mirrored ones, and such that are both, of twelve nodes or fewer.
BOUGHS = [
    ("r", 1, [PAIR, PAIR]), ("r", 1, [PAIR, PAIR, PAIR]), ("r", 1, [PAIR, leaf("x"), PAIR, leaf("y")]),
    ("r", 1, [TRIPLET, TRIPLET]), ("r", 1, [TRIPLET, turned(TRIPLET)]), ("r", 1, [turned(TRIPLET), TRIPLET]),
    ("r", 1, [TRIPLET, leaf("x"), turned(TRIPLET), leaf("y")]), ("r", 1, [TRIPLET, leaf("x"), leaf("y"), TRIPLET]),
    ("r", 1, [EVEN, leaf("x"), EVEN]), ("r", 1, [EVEN, line(4), line(3)]), ("r", 1, [line(3), PAIR, line(2)]),
    ("r", 1, [("x", 1, [PAIR, leaf("y")]), ("x", 1, [leaf("y"), PAIR])]),
    ("r", 1, [("x", 1, [PAIR, leaf("y")]), ("x", 1, [PAIR, leaf("y")])]),
    ("r", 1, [leaf(), leaf(), ("x", 1, [leaf(), ("y", 1, [leaf(), leaf(), leaf(), leaf()]), leaf()])]),
    ("r", 1, [PAIR, line(4), ("abcdefghi", 1, [leaf("b"), leaf("c")])]),
]
TWELVES = [formed(strewn(seed, 12)) for seed in range(60)]
LABELS = (["a"], ["abcdefghi"], ["a", "abcdefghi"], ["abc", "a", "abcde"])
# Narrower where the children of a node stand unlike its mirror: 7 and a half cells, and 8 where it is strict.
LOOSE = read_tree("a(a,a,a(a,a(a,a,a,a),a))")


def relabelled(form, labels):
    tree = grown(form)
    return [(row[0], labels[node % len(labels)], row[2]) for node, row in enumerate(tree)]


def cells(tree, told):
    return Fraction(width_of(tree, told[0], told[1]), told[1])


def least_by_trial(form, gap, parts, more, strict):
    """The least width of all drawings whose steps are at most so many parts of a cell above the least."""
    tree = grown(form)
    nodes = listed(form)
    reach = [len(node[0][0]) // 2 for node in nodes]
    steps = []
    for number, node in enumerate(nodes):
        below = [child for child, other in enumerate(nodes) if other[1] == number]
        steps.extend([(number, one, other) for one, other in zip(below, below[1:])])
    least = [parts * (reach[one] + reach[other] + gap + 1) for number, one, other in steps]
    found = []
    for added in itertools.product(range(more + 1), repeat=len(steps)):
        length = {steps[place][1:]: least[place] + added[place] for place in range(len(steps))}
        places = spread(nodes, length)
        if not broken(tree, places, gap, 2 * parts) and not (strict and unlike(tree, places)):
            found.append(Fraction(width_of(tree, places, 2 * parts), 2 * parts))
    return min(found)


def spread(nodes, length):
    """The places, in a unit of twice the parts, by the lengths of the steps."""
    places = [0] * len(nodes)
    for number in range(len(nodes)):
        below = [child for child, node in enumerate(nodes) if node[1] == number]
        stand = 0
        stands = [0]
        for one, other in zip(below, below[1:]):
            stand += length[(one, other)]
            stands.append(stand)
        for child, place in zip(below, stands):
            places[child] = places[number] + 2 * place - stand
    return places


class TestNarrowest(unittest.TestCase):
    def hold(self, tree, gap):
        """What the document asks of both answers; tells both widths, in cells."""
        widths = []
        for strict in (False, True):
            with self.subTest(tree=tree, gap=gap, strict=strict):
                told = narrowest(tree, gap, strict)
                self.hold_drawing(tree, gap, strict, told)
                widths.append(cells(tree, told))
        quick = Fraction(width_of(tree, drawn(tree, gap)), 256)
        self.assertTrue(widths[0] <= widths[1] <= quick, (tree, gap, widths, quick))
        return widths

    def hold_drawing(self, tree, gap, strict, told):
        self.assertEqual((type(told), len(told)), (tuple, 3))
        places, unit, pulls = told
        self.assertEqual([type(place) for place in places], [int] * len(tree))
        self.assertEqual((type(places), type(unit)), (list, int))
        self.assertGreaterEqual(unit, 1)
        self.assertEqual((type(pulls), [type(part) for part in pulls]), (tuple, [list] * 3))
        self.assertEqual({type(number) for part in pulls for number in part}, {int})
        self.assertEqual(broken(tree, places, gap, unit), [])
        if strict:
            self.assertEqual(unlike(tree, places), [])
        self.assertIs(is_paper(tree, pulls, strict), True)
        self.assertEqual(width_of(tree, places, unit) * sum(pulls[0]), worth(tree, gap, pulls) * unit)

    def hold_width(self, tree, gap, width):
        self.assertEqual(self.hold(tree, gap), [width, width])

    def test_one_node(self):
        for gap in (1, 20):
            self.hold_width([(-1, "a", 1)], gap, 1)
            self.hold_width([(-1, "ab", 5)], gap, 3)
            self.hold_width([(-1, "abcdefghi", 9)], gap, 9)

    def test_a_line_of_nodes(self):
        for gap in (1, 20):
            for count in range(2, 10):
                self.hold_width(grown(line(count)), gap, 1)
                self.hold_width(relabelled(line(count), ["a", "abcdefghi"]), gap, 9)

    def test_roots_with_leaves(self):
        for gap in (1, 20):
            for count in range(1, 12):
                form = ("r", 1, [leaf("x")] * count)
                self.hold_width(grown(form), gap, count + (count - 1) * gap)
                self.hold_width(relabelled(form, ["abcdefghi"]), gap, 9 * count + (count - 1) * gap)
                # A wide root over narrow leaves.
                width = max(9, count + (count - 1) * gap)
                self.hold_width(relabelled(form, ["abcdefghi"] + ["a"] * 11), gap, width)

    def test_roots_with_leaves_of_unlike_reach(self):
        # The leaves ask for nothing but their own room, yet the root stands over the middle of first and last.
        self.hold_width(read_tree("r(abcdefghi,b)"), 1, 9 + 1 + 1)
        self.hold_width(read_tree("r(a,b,abcdefghi)"), 20, 1 + 20 + 1 + 20 + 9)

    def test_boughs(self):
        for form in BOUGHS:
            for gap in (1, 20):
                self.hold(grown(form), gap)
                for labels in LABELS:
                    self.hold(relabelled(form, labels), gap)

    def test_small_trees(self):
        for labels in LABELS:
            for form in all_forms(6, labels):
                self.hold(grown(form), 1)
        for form in all_forms(5, LABELS[3]):
            self.hold(grown(form), 20)

    def test_trees_of_twelve_nodes(self):
        for form in TWELVES:
            self.hold(grown(form), 1)
        for form in TWELVES[:20]:
            self.hold(grown(form), 20)
            self.hold(relabelled(form, ["a"]), 1)
            self.hold(relabelled(form, ["abcdefghi"]), 2)

    def test_the_middle_leaves_room_to_nobody(self):
        # Both boughs of two leaves stand side by side on level 2: 4 leaves and 3 gaps.
        self.hold_width(grown(("r", 1, [PAIR, PAIR])), 1, 7)
        self.hold_width(grown(("r", 1, [PAIR, PAIR])), 20, 64)
        # A leaf at the end of level 1 stands as near as it may, over the room at the side of level 2.
        self.hold_width(grown(("r", 1, [PAIR, leaf("x")])), 1, 4)

    def test_narrower_than_the_quick_drawing(self):
        told = [Fraction(width_of(grown(form), drawn(grown(form), 1)), 256) for form in BOUGHS + TWELVES]
        least = [cells(grown(form), narrowest(grown(form), 1)) for form in BOUGHS + TWELVES]
        self.assertTrue(any(one < other for one, other in zip(least, told)))

    def test_narrower_than_the_narrowest_strict_one(self):
        self.assertEqual(self.hold(LOOSE, 1), [Fraction(15, 2), 8])
        self.assertEqual(self.hold(read_tree("a(abc,abc,abc,a(abc,a(abc,abc,abc,abc),abc))"), 1), [Fraction(37, 2), 20])
        self.assertNotEqual(unlike(LOOSE, narrowest(LOOSE, 1)[0]), [])

    def test_no_whole_number_of_cells(self):
        for gap in (1, 20):
            loose = self.hold(LOOSE, gap)[0]
            self.assertNotEqual(loose.denominator, 1)

    def test_by_trial(self):
        pair = ("a", 1, [leaf("b"), leaf("c")])
        forms = [
            ("r", 1, [pair, leaf("x")]), ("r", 1, [leaf("x"), leaf("y"), pair]), ("r", 1, [pair, line(2)]),
            ("r", 1, [pair, pair]), ("r", 1, [("a", 1, [leaf("b"), leaf("cde")]), leaf("fgh")]),
            ("r", 1, [leaf("x"), ("y", 1, [leaf("a"), leaf("b"), leaf("c")]), leaf("z")]),
            ("r", 1, [leaf("x"), leaf("y"), ("z", 1, [leaf("a"), ("b", 1, [leaf("c"), leaf("d")])])]),
        ]
        for form in forms:
            for strict in (False, True):
                told = cells(grown(form), narrowest(grown(form), 1, strict))
                self.assertEqual(told, least_by_trial(form, 1, 2, 6, strict), (form, strict))

    def test_strict_left_out_is_not_strict(self):
        self.assertEqual(narrowest(LOOSE, 1), narrowest(LOOSE, 1, False))
        self.assertEqual(narrowest(LOOSE, 1), narrowest(LOOSE, 1, strict=False))
        self.assertEqual(narrowest(LOOSE, 1, True), narrowest(LOOSE, 1, strict=True))

    def test_the_mirrored_tree_is_as_wide(self):
        for tree in [grown(form) for form in BOUGHS + TWELVES[:20]] + [LOOSE]:
            for strict in (False, True):
                told = cells(tree, narrowest(tree, 1, strict))
                mirror = mirrored(tree)[0]
                self.assertEqual(cells(mirror, narrowest(mirror, 1, strict)), told)

    def test_tall_says_nothing(self):
        tall = [(elder, label, 9) for elder, label, rows in LOOSE]
        for strict in (False, True):
            self.assertEqual(cells(tall, narrowest(tall, 1, strict)), cells(LOOSE, narrowest(LOOSE, 1, strict)))

    def test_no_drawing_moved_inward_is_by_the_rules(self):
        # On each side of a told drawing something stands just at the side.
        for form in TWELVES[:20]:
            tree = grown(form)
            places, unit, pulls = narrowest(tree, 1)
            reach = [len(row[1]) // 2 for row in tree]
            ends = [[places[level[0]] - unit * reach[level[0]] for level in levels_of(tree)],
                    [places[level[-1]] + unit * reach[level[-1]] for level in levels_of(tree)]]
            self.assertEqual(max(ends[1]) + unit - min(ends[0]), width_of(tree, places, unit))
            # A side is pulled on such levels alone where it is reached.
            self.assertTrue(all(end == min(ends[0]) for end, pull in zip(ends[0], pulls[0]) if pull > 0))
            self.assertTrue(all(end == max(ends[1]) for end, pull in zip(ends[1], pulls[1]) if pull > 0))

    def test_too_many(self):
        for count in (13, 14, 40):
            for tree in (strewn(5, count), grown(("r", 1, [leaf("x")] * (count - 1)))):
                for gap in (1, 20):
                    with self.assertRaises(TooMany):
                        narrowest(tree, gap)
                    with self.assertRaises(TooMany):
                        narrowest(tree, gap, False)
                    with self.assertRaises(TooMany):
                        narrowest(tree, gap, True)

    def test_each_answer_in_a_few_seconds(self):
        for tree in [grown(form) for form in TWELVES + BOUGHS] + [LOOSE]:
            for strict in (False, True):
                start = time.monotonic()
                narrowest(tree, 7, strict)
                self.assertLess(time.monotonic() - start, 3)


if __name__ == "__main__":
    unittest.main()
