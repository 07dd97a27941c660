import unittest

from boughdraw.boughs import bough_of, likeness, mirrored
from boughdraw.errors import NoNode
from boughdraw.trees import made_tree
from tests.helper import all_forms, deep_form, grown, leaf, line, listed, shape, turned, wide_form

THIRTY = 10 ** 29
FORMS = all_forms(6, ["a", "bc", "def", "g"]) + [line(9), wide_form(), deep_form()]

# Node 0 has the children 1, 5 and 8; 1 has 2 and 4; 2 has 3; 5 has 6; 6 has 7.
MIXED = [(-1, "root", 1), (0, "ab", 2), (1, "c", 3), (2, "def", 4), (1, "g", 5),
         (0, "hi", 6), (5, "j", 7), (6, "k", 8), (0, "lmnopqrst", 9)]


class TestBoughOf(unittest.TestCase):
    def test_the_roots_bough_is_the_tree(self):
        self.assertEqual(bough_of(MIXED, 0), MIXED)

    def test_a_leafs_bough_is_the_leaf(self):
        self.assertEqual(bough_of(MIXED, 3), [(-1, "def", 4)])
        self.assertEqual(bough_of(MIXED, 8), [(-1, "lmnopqrst", 9)])
        self.assertEqual(bough_of([(-1, "a", 1)], 0), [(-1, "a", 1)])

    def test_a_node_between(self):
        self.assertEqual(bough_of(MIXED, 1), [(-1, "ab", 2), (0, "c", 3), (1, "def", 4), (0, "g", 5)])
        self.assertEqual(bough_of(MIXED, 5), [(-1, "hi", 6), (0, "j", 7), (1, "k", 8)])
        self.assertEqual(bough_of(MIXED, 2), [(-1, "c", 3), (0, "def", 4)])

    def test_every_bough_of_every_small_form(self):
        for form in FORMS:
            tree = made_tree(grown(form))
            for node, found in enumerate(listed(form)):
                with self.subTest(tree=tree, node=node):
                    bough = bough_of(tree, node)
                    self.assertEqual(bough, grown(found[0]))
                    self.assertEqual(made_tree(bough), bough)

    def test_numbers_that_no_node_has(self):
        for tree in ([(-1, "a", 1)], MIXED):
            for node in (-1, -2, -len(tree), len(tree), len(tree) + 1, THIRTY, -THIRTY):
                with self.subTest(tree=tree, node=node), self.assertRaises(NoNode):
                    bough_of(tree, node)


class TestMirrored(unittest.TestCase):
    def test_a_single_node_and_a_line(self):
        self.assertEqual(mirrored([(-1, "ab", 3)]), ([(-1, "ab", 3)], [0]))
        tree = grown(line(9))
        self.assertEqual(mirrored(tree), (tree, list(range(9))))

    def test_a_tree_by_hand(self):
        rows = [(-1, "root", 1), (0, "lmnopqrst", 9), (0, "hi", 6), (2, "j", 7), (3, "k", 8),
                (0, "ab", 2), (5, "g", 5), (5, "c", 3), (7, "def", 4)]
        self.assertEqual(mirrored(MIXED), (rows, [0, 8, 5, 6, 7, 1, 4, 2, 3]))

    def test_every_small_form(self):
        for form in FORMS:
            tree = made_tree(grown(form))
            with self.subTest(tree):
                told = mirrored(tree)
                self.assertIs(type(told), tuple)
                self.assertEqual(told[0], grown(turned(form)))
                self.assertEqual(made_tree(told[0]), told[0])
                self.assertEqual(sorted(told[1]), list(range(len(tree))))
                self.hold_numbers(tree, told)

    def hold_numbers(self, tree, told):
        for node, number in enumerate(told[1]):
            self.assertEqual(told[0][node][1:], tree[number][1:])
            if node > 0:
                self.assertEqual(told[1][told[0][node][0]], tree[number][0])

    def test_mirrored_twice_is_the_tree(self):
        for form in FORMS:
            tree = grown(form)
            with self.subTest(tree):
                once = mirrored(tree)
                twice = mirrored(once[0])
                self.assertEqual(twice[0], tree)
                self.assertEqual([once[1][number] for number in twice[1]], list(range(len(tree))))


class TestLikeness(unittest.TestCase):
    def told(self, one, other):
        """The likeness of two forms, hung under one root."""
        tree = grown(("root", 1, [one, other]))
        return likeness(tree, 1, 1 + len(listed(one)))

    def test_leaves_of_alike_reach_are_both(self):
        self.assertEqual(self.told(leaf("a"), leaf("b")), (True, True))
        self.assertEqual(self.told(leaf("ab"), leaf("cde")), (True, True))
        self.assertEqual(self.told(leaf("a"), leaf("bc")), (False, False))
        self.assertEqual(self.told(leaf("abc"), leaf("abcd")), (False, False))

    def test_like_alone(self):
        one = ("a", 1, [leaf("b"), leaf("cd")])
        other = ("x", 5, [leaf("y", 2), leaf("zzz", 7)])
        self.assertEqual(self.told(one, other), (True, False))

    def test_mirrored_alone(self):
        one = ("a", 1, [leaf("b"), leaf("cd")])
        other = ("x", 5, [leaf("zzz", 7), leaf("y", 2)])
        self.assertEqual(self.told(one, other), (False, True))
        deep = ("a", 1, [("b", 1, [leaf("cd"), leaf("e")]), leaf("f")])
        self.assertEqual(self.told(deep, turned(deep)), (False, True))
        self.assertEqual(self.told(turned(deep), deep), (False, True))

    def test_both(self):
        one = ("a", 1, [leaf("bc"), leaf("d"), leaf("efg")])
        self.assertEqual(self.told(one, one), (True, True))
        self.assertEqual(self.told(line(3), line(3)), (True, True))

    def test_neither(self):
        self.assertEqual(self.told(line(3), ("a", 1, [leaf(), leaf()])), (False, False))
        self.assertEqual(self.told(line(2), line(3)), (False, False))
        half = ("a", 1, [("b", 1, [leaf("cd"), leaf("e")]), leaf("f")])
        other = ("a", 1, [("b", 1, [leaf("e"), leaf("cd")]), leaf("f")])
        self.assertEqual(self.told(half, other), (False, False))

    def test_fewer_nodes_of_an_alike_beginning(self):
        self.assertEqual(self.told(("a", 1, [leaf()]), ("a", 1, [leaf(), leaf()])), (False, False))
        self.assertEqual(self.told(("a", 1, [leaf(), leaf()]), ("a", 1, [leaf()])), (False, False))

    def test_alike_form_with_other_reach(self):
        one = ("a", 1, [leaf("b"), leaf("c")])
        self.assertEqual(self.told(one, ("ab", 1, [leaf("b"), leaf("c")])), (False, False))
        self.assertEqual(self.told(one, ("a", 1, [leaf("b"), leaf("cd")])), (False, False))

    def test_a_node_and_itself(self):
        tree = grown(("root", 1, [("a", 1, [leaf("b"), leaf("cd")]), ("e", 1, [leaf("fg"), leaf("hi")])]))
        told = [likeness(tree, node, node) for node in range(7)]
        self.assertEqual(told, [(True, False), (True, False)] + [(True, True)] * 5)

    def test_a_bough_and_one_within_it(self):
        tree = grown(line(4))
        self.assertEqual(likeness(tree, 0, 1), (False, False))
        self.assertEqual(likeness(tree, 2, 1), (False, False))

    def test_every_two_nodes_of_many_forms(self):
        for form in all_forms(6, ["a", "bc", "d"]) + [wide_form(), deep_form()]:
            tree = grown(form)
            parts = [found[0] for found in listed(form)]
            for one, first in enumerate(parts):
                for other, second in enumerate(parts):
                    wanted = (shape(first) == shape(second), shape(first) == shape(turned(second)))
                    self.assertEqual(likeness(tree, one, other), wanted, (tree, one, other))

    def test_truths_are_told(self):
        for told in (likeness(MIXED, 0, 0), likeness(MIXED, 1, 5)):
            self.assertIs(type(told), tuple)
            self.assertEqual([type(truth) for truth in told], [bool, bool])

    def test_numbers_that_no_node_has(self):
        for tree in ([(-1, "a", 1)], MIXED):
            for node in (-1, -2, -len(tree), len(tree), len(tree) + 1, THIRTY, -THIRTY):
                for pair in ((node, 0), (0, node), (node, node)):
                    with self.subTest(tree=tree, pair=pair), self.assertRaises(NoNode):
                        likeness(tree, pair[0], pair[1])


if __name__ == "__main__":
    unittest.main()
