import itertools
import unittest

from boughdraw.errors import DrawError, NoPicture
from boughdraw.pictures import picture
from boughdraw.readers import read_picture
from boughdraw.texts import read_tree
from boughdraw.trees import made_tree
from tests.helper import (all_forms, deep_form, dressed, fine_form, formed, grown, leaf, line, strewn, wide_form, woods)

FORMS = (all_forms(6, ["a", "bc", "defghijkl"]) + all_forms(5, ["abcd", "e"])
         + [line(9), wide_form(), deep_form(), fine_form(), leaf("a", 9), ("r", 1, [leaf()] * 11)]
         + [formed(strewn(seed, seed)) for seed in range(1, 41)])

# Those that each sign and row of is tried; all kinds of signs stand in them.
TRIED = [read_tree(text) for text in (
    "a", "ab*3", "a(b)", "a(b,c)", "abc*2(d(e),f*3,g*2(h,i*2))", "r(a(b),c*3,d*2(e),f)",
    "root*2(ab*3(c,def*2),gh,i*2(j))", "a(b,c,d*3(e,f,g),h(i(j*2)),k*3)")] + [strewn(3, 20)]


def kind_of(row):
    """The kind of a row of a picture, by its first sign."""
    sign = row.lstrip(" ")[0]
    return "labels" if sign.isalpha() else "below" if sign in ":|" else "bars"


def with_sign(rows, number, column, sign):
    """The rows with one sign in the place of another, and nothing else altered."""
    row = rows[number].ljust(column + 1)
    return rows[:number] + [row[:column] + sign + row[column + 1:]] + rows[number + 1:]


def trees_of(most, labels, tallest):
    """Every tree of up to so many nodes with these labels, each chosen freely, and tall from 1 to the tallest."""
    found = []
    for count in range(1, most + 1):
        dresses = list(itertools.product(labels, range(1, tallest + 1)))
        for bare in woods(count - 1):
            bare_tree = grown(dressed(bare, ["a"]))
            for dress in itertools.product(dresses, repeat=count):
                found.append([(row[0], label, tall) for row, (label, tall) in zip(bare_tree, dress)])
    return found


def pictures_of(trees, gap):
    return {tuple(picture(tree, gap)): tree for tree in trees}


class TestReadPicture(unittest.TestCase):
    def test_by_hand(self):
        rows = ["   r", "+-+^+-+", "a c d f", "| : :", "| : |", "#   #", "b   e"]
        tree = [(-1, "r", 1), (0, "a", 1), (1, "b", 1), (0, "c", 3), (0, "d", 2), (4, "e", 1), (0, "f", 1)]
        self.assertEqual(read_picture(rows, 1), tree)
        self.assertEqual(read_picture(["a"], 1), [(-1, "a", 1)])
        self.assertEqual(read_picture(["root"] + ["  :"] * 8, 20), [(-1, "root", 9)])
        self.assertEqual(read_picture([" r", "+^+", "a b"], 1), [(-1, "r", 1), (0, "a", 1), (0, "b", 1)])
        self.assertEqual(read_picture([" r", "+^-+", "a  b"], 2), [(-1, "r", 1), (0, "a", 1), (0, "b", 1)])

    def test_every_picture_is_read_to_its_tree(self):
        for form in FORMS:
            tree = grown(form)
            for gap in (1, 2, 20):
                with self.subTest(tree):
                    told = read_picture(picture(tree, gap), gap)
                    self.assertEqual(told, tree)
                    self.assertIs(type(told), list)
                    self.assertEqual({(type(row), *map(type, row)) for row in told}, {(tuple, int, str, int)})
                    self.assertEqual(made_tree(told), tree)

    def test_with_another_gap(self):
        ways = {True: 0, False: 0}
        for tree in [grown(form) for form in FORMS]:
            for gap, other in ((1, 2), (2, 1), (1, 20), (20, 1), (19, 20)):
                rows = picture(tree, gap)
                same = picture(tree, other) == rows
                ways[same] += 1
                if same:
                    self.assertEqual(read_picture(rows, other), tree)
                else:
                    with self.subTest(tree), self.assertRaises(NoPicture):
                        read_picture(rows, other)
        self.assertTrue(all(ways.values()))

    def test_a_gap_that_asks_for_far_more_room(self):
        self.assertEqual(read_picture(["a", "#", "b"], 10 ** 29), [(-1, "a", 1), (0, "b", 1)])
        with self.assertRaises(NoPicture):
            read_picture([" r", "+^+", "a b"], 10 ** 29)

    def test_no_two_trees_have_one_picture(self):
        for gap in (1, 2):
            trees = trees_of(4, ["a", "bc"], 2)
            pictures = pictures_of(trees, gap)
            self.assertEqual(len(pictures), len(trees))
            for rows, tree in pictures.items():
                self.assertEqual(read_picture(list(rows), gap), tree)

    def test_another_letter(self):
        for tree in TRIED:
            rows = picture(tree, 1)
            for number, row in enumerate(rows):
                for column, sign in enumerate(row if kind_of(row) == "labels" else ""):
                    if sign != " ":
                        other = with_sign(rows, number, column, "z")
                        told = read_picture(other, 1)
                        self.assertEqual(picture(told, 1), other)
                        changed = [old[1] + ">" + new[1] for old, new in zip(tree, told) if old != new]
                        self.assertEqual([(new[0], new[2]) for new in told], [(old[0], old[2]) for old in tree])
                        self.assertEqual(len(changed), 1)
                        self.assertIn("z", changed[0])

    def test_every_letter(self):
        for letter in "abcdefghijklmnopqrstuvwxyz":
            self.assertEqual(read_picture([letter, "#", letter], 1), [(-1, letter, 1), (0, letter, 1)])


class TestNoPicture(unittest.TestCase):
    def refuse(self, rows, gap=1):
        with self.subTest(rows):
            with self.assertRaises(NoPicture) as caught:
                read_picture(rows, gap)
            self.assertIsInstance(caught.exception, DrawError)

    def each_row(self, kinds=("labels", "below", "bars")):
        """Of each tried picture, each row of these kinds: the rows of the picture and its number."""
        return [(rows, number) for rows in [picture(tree, 1) for tree in TRIED]
                for number, row in enumerate(rows) if kind_of(row) in kinds]

    def test_the_tried_pictures_are_read(self):
        for tree in TRIED:
            self.assertEqual(read_picture(picture(tree, 1), 1), tree)

    def test_no_row(self):
        self.refuse([])

    def test_a_row_without_signs(self):
        for empty in ("", " ", "   "):
            self.refuse([empty])
            self.refuse([empty, empty])
            for rows, number in self.each_row():
                self.refuse(rows[:number] + [empty] + rows[number:])
                self.refuse(rows[:number] + [empty] + rows[number + 1:])
                self.refuse(rows + [empty])

    def test_a_blank_behind_a_row(self):
        for rows, number in self.each_row():
            self.refuse(rows[:number] + [rows[number] + " "] + rows[number + 1:])

    def test_a_blank_ahead(self):
        for rows, number in self.each_row():
            self.refuse(rows[:number] + [" " + rows[number]] + rows[number + 1:])
            self.refuse([" " + row for row in rows])
            if rows[number][0] == " ":
                self.refuse(rows[:number] + [rows[number][1:]] + rows[number + 1:])

    def test_a_sign_that_stands_in_no_picture(self):
        for rows, number in self.each_row():
            for sign in "A0.*'_`{\t\n\u00e4\u00a0":
                for column in range(len(rows[number]) + 1):
                    self.refuse(with_sign(rows, number, column, sign))
                self.refuse(rows[:number] + [sign] + rows[number:])

    def test_the_first_row_left_out(self):
        for rows in [picture(tree, 1) for tree in TRIED]:
            self.refuse(rows[1:])

    def test_rows_of_labels_or_bars_twice_or_left_out(self):
        for rows, number in self.each_row(("labels", "bars")):
            self.refuse(rows[:number] + [rows[number]] + rows[number:])
            self.refuse(rows + [rows[number]])
            self.refuse(rows[:number] + rows[number + 1:])

    def test_rows_in_another_order(self):
        for rows, number in self.each_row():
            if number + 1 < len(rows) and rows[number] != rows[number + 1]:
                self.refuse(rows[:number] + [rows[number + 1], rows[number]] + rows[number + 2:])

    def test_one_sign_of_a_row_of_bars(self):
        for rows, number in self.each_row(("bars",)):
            for column in range(len(rows[number]) + 1):
                for sign in " +-^#:|az":
                    other = with_sign(rows, number, column, sign)
                    if other != rows and other[number].rstrip(" ") != rows[number]:
                        self.refuse(other)
                        self.refuse(other[:number] + [other[number].rstrip(" ")] + other[number + 1:])
                if column < len(rows[number]):
                    self.refuse(rows[:number] + [rows[number][:column] + rows[number][column + 1:]] + rows[number + 1:])

    def test_other_signs_among_the_labels(self):
        for rows, number in self.each_row(("labels",)):
            for column in range(len(rows[number])):
                for sign in "+-^#:|":
                    self.refuse(with_sign(rows, number, column, sign))

    def test_more_than_a_tree_has(self):
        wide = ("r", 1, [leaf("a")] * 39)
        deep = line(9)
        self.assertEqual(read_picture(picture(grown(wide), 1), 1), grown(wide))
        self.assertEqual(read_picture(picture(grown(deep), 1), 1), grown(deep))
        for form in (("r", 1, [leaf("a")] * 40), ("r", 1, [("a", 1, [leaf("b")])] * 20), line(10), leaf("abcdefghij"),
                     ("r", 1, [leaf("abcdefghij"), leaf("b")]), leaf("a", 10), ("r", 1, [leaf("a", 10), leaf("b")])):
            for gap in (1, 20):
                self.refuse(picture(grown(form), gap), gap)

    def test_two_roots(self):
        self.refuse(["a b"])
        self.refuse(["a b", "#", "c"])
        self.refuse(["a b", "# #", "c d"])
        self.refuse(["a b c", "  #", "  d"])

    def test_labels_apart_from_their_bars(self):
        self.refuse(["a", "#", " b"])
        self.refuse([" a", "#", "b"])
        self.refuse(["a", "#", "b c"])
        self.refuse([" r", "+^+", "a"])
        self.refuse([" r", "+^+", "a c b"])
        self.refuse(["r", "+-^", "a b"])
        self.refuse(["a", "#"])
        self.refuse(["a", "b"])
        self.refuse(["a", "-", "b"])
        self.refuse(["a", "+", "b"])
        self.refuse(["a", "^", "b"])

    def test_drawn_by_the_rules_but_not_quickly(self):
        # The same tree with more room than the quick drawing takes.
        self.refuse(["  r", "+-^-+", "a   b"])
        self.refuse(["   r", "+--^+-+", "a   b c"])

    def test_long_lists_and_texts(self):
        for rows in (["a " * 1000] * 2000, ["a " * 999 + "a", ("# " * 999 + "#")] * 1000, ["a" * 2000], ["a"] * 2000,
                     ["a"] + [":"] * 1999, ["a"] + [":" * 2000] * 1999, ["a", "#"] * 999 + ["a"], ["#" * 2000] * 2000,
                     [" " * 2000] * 2000, ["a"] + ["#" * 2000], ["a", "+" * 1999 + "#", "a " * 1000]):
            with self.assertRaises(NoPicture):
                read_picture(rows, 1)


class TestRowsBelow(unittest.TestCase):
    """Rows of colons and uprights altered: read where another tree has this picture, else refused."""

    def setUp(self):
        self.pictures = pictures_of(trees_of(3, ["a"], 4) + self.fours(4), 1)
        self.counts = {True: 0, False: 0}

    def fours(self, tallest):
        trees = []
        for text in ("a(b(c),d)", "a(b,cd(e))"):
            tree = read_tree(text)
            for talls in itertools.product(range(1, tallest + 1), repeat=4):
                trees.append([(elder, label, tall) for (elder, label, one), tall in zip(tree, talls)])
        return trees

    def hold(self, rows):
        known = tuple(rows) in self.pictures
        self.counts[known] += 1
        if known:
            self.assertEqual(read_picture(rows, 1), self.pictures[tuple(rows)])
        else:
            with self.subTest(rows), self.assertRaises(NoPicture):
                read_picture(rows, 1)

    def test_one_sign_changed_left_out_or_put_in(self):
        for tree in trees_of(3, ["a"], 3) + self.fours(3):
            rows = picture(tree, 1)
            for number, row in enumerate(rows):
                if kind_of(row) == "below":
                    self.hold(rows[:number] + rows[number + 1:])
                    self.hold(rows[:number] + [row] + rows[number:])
                    for column in range(len(row) + 1):
                        for sign in ":| ":
                            other = with_sign(rows, number, column, sign)
                            self.hold(other)
                            self.hold(other[:number] + [other[number].rstrip(" ")] + other[number + 1:])
                            self.hold(rows[:number] + [other[number]] + rows[number:])
                        self.hold(rows[:number] + [row[:column] + row[column + 1:]] + rows[number + 1:])
        self.assertTrue(all(self.counts.values()))

    def test_rows_put_in_anywhere(self):
        for tree in trees_of(3, ["a"], 2):
            rows = picture(tree, 1)
            for number in range(len(rows) + 1):
                for row in (":", "|", " :", " |", ": :", ": |", "| :", "| |", "  :", "  |"):
                    self.hold(rows[:number] + [row] + rows[number:])
        self.assertTrue(all(self.counts.values()))

    def test_nine_rows_are_the_most(self):
        rows = ["a"] + [":"] * 7
        self.assertEqual(read_picture(rows + [":"], 1), [(-1, "a", 9)])
        with self.assertRaises(NoPicture):
            read_picture(rows + [":", ":"], 1)
        with self.assertRaises(NoPicture):
            read_picture(rows + ["|"], 1)


class TestAllSmallLists(unittest.TestCase):
    """Of all lists of texts over a few signs just the pictures are read."""

    def hold(self, lists, trees):
        pictures = pictures_of(trees, 1)
        found = {}
        for rows in lists:
            try:
                found[rows] = read_picture(list(rows), 1)
            except NoPicture:
                pass
        self.assertEqual(found, {rows: tree for rows, tree in pictures.items() if rows in lists})
        self.assertGreater(len(found), 4)

    def test_up_to_three_rows_of_up_to_two_signs(self):
        texts = ["".join(signs) for count in range(3) for signs in itertools.product("a:|# ", repeat=count)]
        lists = {rows for count in range(4) for rows in itertools.product(texts, repeat=count)}
        self.hold(lists, trees_of(3, ["a", "aa"], 3))

    def test_up_to_five_rows_of_one_sign(self):
        lists = {rows for count in range(6) for rows in itertools.product("a:|#^+-", repeat=count)}
        self.hold(lists, trees_of(3, ["a"], 5))


if __name__ == "__main__":
    unittest.main()
