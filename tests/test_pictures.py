import unittest

from boughdraw.pictures import picture
from boughdraw.places import drawn, tops
from boughdraw.texts import read_tree
from tests.helper import all_forms, deep_form, fine_form, formed, grown, leaf, line, listed, strewn, wide_form

FORMS = (all_forms(6, ["a", "bc", "defghijkl"]) + all_forms(5, ["abcd", "e"])
         + [line(9), wide_form(), deep_form(), fine_form()] + [formed(strewn(seed, seed)) for seed in range(1, 41)])


def painted(form, gap):
    """The picture of a form, sign by sign on a sheet of single spots, from the places of its quick drawing."""
    spots = {}
    nodes = listed(form)
    columns = [place // 256 for place in drawn(grown(form), gap)]
    top = 0
    for level in range(max(node[2] for node in nodes) + 1):
        here = [number for number, node in enumerate(nodes) if node[2] == level]
        tallest = max(nodes[number][0][1] for number in here)
        for number in here:
            label, tall, children = nodes[number][0]
            for place, sign in enumerate(label):
                spots[(top, columns[number] - len(label) // 2 + place)] = sign
            for row in range(1, tallest):
                if row < tall or children:
                    spots[(top + row, columns[number])] = ":" if row < tall else "|"
            below = [columns[child] for child in range(len(nodes)) if nodes[child][1] == number]
            for column in range(min(below, default=0), max(below, default=-1) + 1):
                own = column == columns[number]
                spots[(top + tallest, column)] = ("#" if own else "+") if column in below else ("^" if own else "-")
        top += tallest + 1
    rows = [[column for row, column in spots if row == number] for number in range(top - 1)]
    return ["".join(spots.get((number, column), " ") for column in range(max(row) + 1))
            for number, row in enumerate(rows)]


class TestPicture(unittest.TestCase):
    def hold(self, text, gap, rows):
        with self.subTest(text):
            self.assertEqual(picture(read_tree(text), gap), rows)

    def test_one_node(self):
        for gap in (1, 20):
            self.hold("a", gap, ["a"])
            self.hold("abcdefghi", gap, ["abcdefghi"])
            self.hold("a*9", gap, ["a"] + [":"] * 8)
            self.hold("ab*9", gap, ["ab"] + [" :"] * 8)
            self.hold("abcdefghi*9", gap, ["abcdefghi"] + ["    :"] * 8)
            self.hold("abcdefgh*2", gap, ["abcdefgh", "    :"])

    def test_a_line_of_nodes(self):
        for gap in (1, 20):
            self.hold("a(b(c))", gap, ["a", "#", "b", "#", "c"])
            self.hold("ab*2(c(def*3))", gap, ["ab", " :", " #", " c", " #", "def", " :", " :"])
            self.assertEqual(picture(grown(line(9)), gap), ["a", "#"] * 8 + ["a"])

    def test_a_root_with_two_children(self):
        self.hold("r(a,b)", 1, [" r", "+^+", "a b"])
        self.hold("r(a,b)", 2, [" r", "+^-+", "a  b"])
        self.hold("r(a,b)", 20, [" " * 10 + "r", "+" + "-" * 9 + "^" + "-" * 10 + "+", "a" + " " * 20 + "b"])
        self.hold("root(ab,cde)", 1, [" root", " +-^-+", "ab  cde"])
        self.hold("abcdefghi(j,k)", 1, ["abcdefghi", "   +^+", "   j k"])

    def test_a_root_with_three_children(self):
        self.hold("r(a,b,c)", 1, ["  r", "+-#-+", "a b c"])
        self.hold("r(a,b,c)", 20, [" " * 21 + "r", "+" + "-" * 20 + "#" + "-" * 20 + "+",
                                   "a" + " " * 20 + "b" + " " * 20 + "c"])
        self.hold("r(abc,d,e)", 1, ["   r", " +-^+-+", "abc d e"])
        self.hold("r(a,b,c(d,e))", 1, ["  r", "+-#-+", "a b c", "   +^+", "   d e"])

    def test_a_root_with_eleven_children(self):
        text = "r(a,b,c,d,e,f,g,h,i,j,k)"
        self.hold(text, 1, [" " * 10 + "r", "+-+-+-+-+-#-+-+-+-+-+", "a b c d e f g h i j k"])
        self.hold(text, 20, [" " * 105 + "r", "-".join("+" * 5 + "#" + "+" * 5).replace("-", "-" * 20),
                             (" " * 20).join("abcdefghijk")])

    def test_an_even_number_of_children(self):
        self.hold("r(a,b,c,d)", 1, ["   r", "+-+^+-+", "a b c d"])
        self.hold("r(a,b,c,d)", 2, ["    r", "+--+^-+--+", "a  b  c  d"])

    def test_several_levels_with_unlike_tall(self):
        self.hold("root*2(ab*3(c,def*2),gh,i*2(j))", 1, [
            "   root",
            "     :",
            " +---#--+",
            "ab  gh  i",
            " :      :",
            " :      |",
            "+^-+    #",
            "c def   j",
            "   :",
        ])

    def test_uprights_stand_where_children_hang_and_no_row_is_taken(self):
        self.hold("r(a(b),c*3,d*2(e),f)", 1, [
            "   r",
            "+-+^+-+",
            "a c d f",
            "| : :",
            "| : |",
            "#   #",
            "b   e",
        ])

    def test_columns_are_whole_cells_at_the_left(self):
        # The root stands at 3 cells and a half, its first child at 1 and a half.
        self.hold("root(ab*2(c,def),gh)", 1, [" root", " +-^-+", "ab  gh", " :", "+^-+", "c def"])

    def test_many_bars_on_one_row(self):
        self.hold("r(a(b,c),d,e(f),g(h,i,j))", 1, [
            "     r",
            " +-+-#---+",
            " a d e   g",
            "+^+  # +-#-+",
            "b c  f h i j",
        ])

    def test_every_form_sign_by_sign(self):
        for form in FORMS:
            for gap in (1, 2, 20):
                with self.subTest(form):
                    self.assertEqual(picture(grown(form), gap), painted(form, gap))

    def test_rows_end_with_no_blank_and_are_as_many_as_the_levels_need(self):
        for form in FORMS:
            tree = grown(form)
            rows = picture(tree, 1)
            with self.subTest(tree):
                self.assertIs(type(rows), list)
                self.assertEqual([row for row in rows if type(row) is not str or row == "" or row[-1] == " "], [])
                tallest = {}
                for part, elder, level in listed(form):
                    tallest[level] = max(part[1], tallest.get(level, 0))
                self.assertEqual(len(rows), sum(tallest.values()) + len(tallest) - 1)

    def test_labels_begin_so_many_signs_ahead_of_their_column_as_their_reach(self):
        for form in FORMS:
            tree = grown(form)
            for gap in (1, 20):
                rows = picture(tree, gap)
                above = tops(tree)
                for (part, elder, level), place in zip(listed(form), drawn(tree, gap)):
                    start = place // 256 - len(part[0]) // 2
                    self.assertEqual(rows[above[level]][start:start + len(part[0])], part[0])

    def test_at_the_left_side_a_sign_stands(self):
        for form in FORMS:
            self.assertTrue(any(row[0] != " " for row in picture(grown(form), 3)), form)

    def test_forty_nodes(self):
        rows = picture(grown(wide_form()), 1)
        self.assertEqual(len(rows), 2 + 1 + 1 + 1 + 9)
        self.assertEqual([row.count("abc") for row in rows], [0] * 3 + [13] + [0] * 10)
        self.assertEqual(rows[4].split(), ["+-^-+"] * 13)
        self.assertEqual(rows[2].count("+") + rows[2].count("#"), 13)
        self.assertEqual(rows[5].split(), ["d", "efghi"] * 13)
        self.assertEqual([row.count(":") for row in rows[6:]], [26, 26] + [13] * 6)

    def test_level_eight(self):
        rows = picture(grown(line(9)), 1)
        self.assertEqual(rows, ["a", "#"] * 8 + ["a"])
        rows = picture(grown(deep_form()), 20)
        self.assertEqual(len([row for row in rows if "^" in row or "#" in row]), 8)
        self.assertEqual(sum(row.count("+") + row.count("#") for row in rows), 39)

    def test_labels_and_tall_move_no_column(self):
        tree = grown(("r", 1, [("abc", 1, [leaf("d"), leaf("e")]), leaf("f"), leaf("gh")]))
        other = [(elder, "z" * len(label), 9) for elder, label, tall in tree]
        bars = [row for row in picture(tree, 1) if row.strip(" +-^#") == ""]
        self.assertEqual([row for row in picture(other, 1) if row.strip(" +-^#") == ""], bars)

    def test_trees_and_gaps_somewhat_beyond_the_bounds_are_not_refused(self):
        for form in (("r", 1, [leaf("a")] * 40), line(10), leaf("abcdefghij"), leaf("a", 10)):
            for gap in (0, 1, 21):
                self.assertEqual(picture(grown(form), gap), painted(form, gap))


if __name__ == "__main__":
    unittest.main()
