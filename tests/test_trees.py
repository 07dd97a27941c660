import itertools
import unittest

from boughdraw.errors import NoNode, NoTree
from boughdraw.trees import children_of, levels_of, made_tree, reaches
from tests.helper import all_forms, deep_form, grown, leaf, line, listed, wide_form

THIRTY = 10 ** 29
FORMS = all_forms(6, ["a", "bc", "def"]) + [line(9), wide_form(), deep_form()]


def rows_with(elders):
    return [(elder, "a", 1) for elder in elders]


class TestMadeTree(unittest.TestCase):
    def refuse(self, rows):
        with self.assertRaises(NoTree):
            made_tree(rows)

    def test_trees_are_told_as_they_were_handed_in(self):
        for form in FORMS:
            rows = grown(form)
            with self.subTest(rows):
                tree = made_tree(rows)
                self.assertEqual(tree, rows)
                self.assertIs(type(tree), list)
                self.assertEqual([type(node) for node in tree], [tuple] * len(rows))

    def test_a_single_node(self):
        self.assertEqual(made_tree([(-1, "a", 1)]), [(-1, "a", 1)])

    def test_forty_nodes_and_not_one_more(self):
        self.assertEqual(len(grown(wide_form())), 40)
        self.assertEqual(len(grown(deep_form())), 40)
        self.assertEqual(len(made_tree(rows_with([-1] + [0] * 39))), 40)
        self.refuse(rows_with([-1] + [0] * 40))
        self.refuse(grown(wide_form()) + [(0, "a", 1)])
        self.refuse(rows_with([-1] + [0] * 1999))

    def test_no_row_at_all(self):
        self.refuse([])

    def test_level_eight_and_not_nine(self):
        self.assertEqual(max(level for part, elder, level in listed(deep_form())), 8)
        self.assertEqual(made_tree(rows_with(range(-1, 8))), rows_with(range(-1, 8)))
        self.refuse(rows_with(range(-1, 9)))
        # The deepest node stands neither last nor on the first way down.
        self.refuse(rows_with([-1, 0, 0, 2, 3, 4, 5, 6, 7, 8, 9, 0]))

    def test_level_nine_within_forty_nodes(self):
        rows = grown(("a", 1, [line(4), line(8), line(3)]))
        self.assertEqual(made_tree(rows), rows)
        self.refuse(grown(("a", 1, [line(4), line(9), line(3)])))

    def test_a_root_whose_elder_is_not_minus_one(self):
        for elder in (-2, 0, 1, THIRTY, -THIRTY):
            with self.subTest(elder):
                self.refuse(rows_with([elder]))
                self.refuse(rows_with([elder, 0]))

    def test_a_second_root(self):
        self.refuse(rows_with([-1, -1]))
        self.refuse(rows_with([-1, 0, 1, -1]))
        self.refuse(rows_with([-1, 0, -1, 2]))

    def test_elders_that_no_node_may_have(self):
        for elder in (-2, -3, -THIRTY, 3, 4, 5, 40, THIRTY):
            with self.subTest(elder):
                self.refuse(rows_with([-1, 0, 1, elder]))
                self.refuse(rows_with([-1, 0, 1, elder, 3]))

    def test_an_elder_that_is_not_on_the_way_up(self):
        self.assertEqual(made_tree(rows_with([-1, 0, 1, 1, 0])), rows_with([-1, 0, 1, 1, 0]))
        self.refuse(rows_with([-1, 0, 0, 1]))
        self.refuse(rows_with([-1, 0, 1, 1, 2]))
        self.refuse(rows_with([-1, 0, 1, 0, 2]))
        self.refuse(rows_with([-1, 0, 1, 0, 3, 1]))

    def test_every_row_of_elders_up_to_five_nodes(self):
        good = {tuple(elder for part, elder, level in listed(form)) for form in all_forms(5, ["a"])}
        for count in range(1, 6):
            for elders in itertools.product(range(-2, count + 1), repeat=count):
                if elders in good:
                    self.assertEqual(made_tree(rows_with(elders)), rows_with(elders))
                else:
                    with self.subTest(elders):
                        self.refuse(rows_with(elders))

    def test_labels_of_one_to_nine_letters(self):
        for label in ("a", "z", "m", "abcdefghi", "rstuvwxyz", "jklmnopq"):
            with self.subTest(label):
                self.assertEqual(made_tree([(-1, label, 1)]), [(-1, label, 1)])
                self.assertEqual(made_tree([(-1, "a", 1), (0, label, 1)])[1], (0, label, 1))

    def test_labels_that_are_none(self):
        wrong = ["", "abcdefghij", "a" * 2000, "A", "aBc", "a1", "1", " ", "a ", " a", "a\n", "a-b", "a_b", "`", "{",
                 "*", "(", "\u00e9", "\u00df", "\u00aa", "\uff41", "\u0430", "a\u0301", "\x00"]
        for label in wrong:
            with self.subTest(label):
                self.refuse([(-1, label, 1)])
                self.refuse([(-1, "a", 1), (0, label, 1)])
                self.refuse([(-1, "a", 1), (0, label, 1), (1, "a", 1)])

    def test_tall_from_one_to_nine(self):
        for tall in range(1, 10):
            with self.subTest(tall):
                self.assertEqual(made_tree([(-1, "a", tall)]), [(-1, "a", tall)])
        for tall in (0, 10, -1, -9, 11, THIRTY, -THIRTY):
            with self.subTest(tall):
                self.refuse([(-1, "a", tall)])
                self.refuse([(-1, "a", 1), (0, "a", tall)])
                self.refuse([(-1, "a", 1), (0, "a", tall), (0, "a", 1)])

    def test_the_tree_stays_where_the_rows_are_changed_behind(self):
        rows = [(-1, "a", 1), (0, "b", 2)]
        tree = made_tree(rows)
        rows.append((0, "c", 3))
        rows[0] = (7, "x", 7)
        self.assertEqual(tree, [(-1, "a", 1), (0, "b", 2)])


class TestChildrenAndLevels(unittest.TestCase):
    def test_children_of_trees_by_hand(self):
        tree = made_tree(rows_with([-1, 0, 1, 1, 3, 0, 0, 6]))
        told = [children_of(tree, node) for node in range(8)]
        self.assertEqual(told, [[1, 5, 6], [2, 3], [], [4], [], [], [7], []])

    def test_children_of_a_single_node_and_a_line(self):
        self.assertEqual(children_of(grown(leaf()), 0), [])
        tree = grown(line(9))
        self.assertEqual([children_of(tree, node) for node in range(9)], [[n] for n in range(1, 9)] + [[]])

    def test_children_of_every_small_form(self):
        for form in FORMS:
            tree = made_tree(grown(form))
            nodes = listed(form)
            for node in range(len(tree)):
                with self.subTest(tree=tree, node=node):
                    wanted = [number for number, found in enumerate(nodes) if found[1] == node]
                    self.assertEqual(children_of(tree, node), wanted)

    def test_levels_of_trees_by_hand(self):
        tree = made_tree(rows_with([-1, 0, 1, 1, 3, 0, 0, 6]))
        self.assertEqual(levels_of(tree), [[0], [1, 5, 6], [2, 3, 7], [4]])
        self.assertEqual(levels_of(rows_with([-1, 0, 0, 2, 3, 0, 5])), [[0], [1, 2, 5], [3, 6], [4]])

    def test_levels_of_a_single_node_and_a_line(self):
        self.assertEqual(levels_of(grown(leaf())), [[0]])
        self.assertEqual(levels_of(grown(line(9))), [[n] for n in range(9)])

    def test_levels_of_every_small_form(self):
        for form in FORMS:
            nodes = listed(form)
            deepest = max(found[2] for found in nodes)
            wanted = [[n for n, found in enumerate(nodes) if found[2] == level] for level in range(deepest + 1)]
            with self.subTest(form):
                self.assertEqual(levels_of(made_tree(grown(form))), wanted)

    def test_numbers_that_no_node_has(self):
        for form in (leaf(), line(9), wide_form()):
            tree = grown(form)
            for node in (-1, -2, len(tree), len(tree) + 1, THIRTY, -THIRTY):
                with self.subTest(tree=tree, node=node), self.assertRaises(NoNode):
                    children_of(tree, node)


class TestReaches(unittest.TestCase):
    def test_labels_of_one_to_nine_signs(self):
        rows = [(-1, "a", 1)] + [(0, "abcdefghi"[:count], 10 - count) for count in range(1, 10)]
        self.assertEqual(reaches(made_tree(rows)), [0, 0, 1, 1, 2, 2, 3, 3, 4, 4])

    def test_a_single_node(self):
        self.assertEqual(reaches([(-1, "abcde", 9)]), [2])

    def test_each_node_has_its_own(self):
        tree = made_tree([(-1, "abcd", 1), (0, "b", 9), (1, "abcdefghi", 1), (0, "cd", 2)])
        self.assertEqual(reaches(tree), [2, 0, 4, 1])


if __name__ == "__main__":
    unittest.main()
