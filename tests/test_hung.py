import re
import unittest

from boughdraw.errors import NoPicture
from boughdraw.hung import hung_rows, read_hung
from boughdraw.trees import made_tree
from tests.helper import all_forms, deep_form, fine_form, formed, grown, leaf, line, strewn, wide_form

FORMS = all_forms(6, ["a", "bc", "defghijkl"]) + [line(9), wide_form(), deep_form(), fine_form()]

# Nodes with and without later children of their elder, on several levels.
TREE = [(-1, "root", 3), (0, "ab", 1), (1, "c", 2), (2, "d", 1), (1, "e", 1), (4, "f", 9), (4, "g", 1),
        (0, "hi", 1), (7, "j", 1), (8, "k", 1), (0, "l", 1), (10, "m", 1), (11, "n", 4), (11, "o", 1)]
HUNG = [
    "root::",
    "+-ab",
    "| +-c:",
    "| | '-d",
    "| '-e",
    "|   +-f::::::::",
    "|   '-g",
    "+-hi",
    "| '-j",
    "|   '-k",
    "'-l",
    "  '-m",
    "    +-n:::",
    "    '-o",
]


def hung(form):
    """The hung list of a form by nesting: the rows of each child are set in as a whole."""
    rows = [form[0] + ":" * (form[1] - 1)]
    for number, child in enumerate(form[2]):
        inner = hung(child)
        last = number == len(form[2]) - 1
        rows.append(("'-" if last else "+-") + inner[0])
        rows.extend(("  " if last else "| ") + row for row in inner[1:])
    return rows


def is_hung(rows, level=0):
    """Whether rows are the hung list of a bough on a level: its row, and the children's lists set in."""
    if not 1 <= len(rows) <= 40 or level > 8 or not re.fullmatch("[a-z]{1,9}:{0,8}", rows[0]):
        return False
    starts = [number for number in range(1, len(rows)) if rows[number][:2] in ("+-", "'-")]
    if len(rows) > 1 and starts[:1] != [1]:
        return False
    return all(is_child(rows[start:end], end == len(rows), level + 1)
               for start, end in zip(starts, starts[1:] + [len(rows)]))


def is_child(rows, last, level):
    ahead = ["'-" if last else "+-"] + ["  " if last else "| "] * (len(rows) - 1)
    return [row[:2] for row in rows] == ahead and is_hung([row[2:] for row in rows], level)


class TestHungRows(unittest.TestCase):
    def test_by_hand(self):
        self.assertEqual(hung_rows(TREE), HUNG)
        self.assertEqual(read_hung(HUNG), TREE)

    def test_one_node(self):
        self.assertEqual(hung_rows([(-1, "a", 1)]), ["a"])
        self.assertEqual(hung_rows([(-1, "abcdefghi", 9)]), ["abcdefghi::::::::"])
        self.assertEqual(read_hung(["a"]), [(-1, "a", 1)])
        self.assertEqual(read_hung(["abcdefghi::::::::"]), [(-1, "abcdefghi", 9)])

    def test_children_of_the_root(self):
        rows = ["a", "+-b", "+-c:", "'-d"]
        self.assertEqual(hung_rows([(-1, "a", 1), (0, "b", 1), (0, "c", 2), (0, "d", 1)]), rows)
        self.assertEqual(read_hung(rows), [(-1, "a", 1), (0, "b", 1), (0, "c", 2), (0, "d", 1)])

    def test_tall_from_one_to_nine(self):
        for tall in range(1, 10):
            with self.subTest(tall):
                tree = [(-1, "a", tall), (0, "b", tall)]
                rows = ["a" + ":" * (tall - 1), "'-b" + ":" * (tall - 1)]
                self.assertEqual(hung_rows(tree), rows)
                self.assertEqual(read_hung(rows), tree)

    def test_every_letter(self):
        for letter in "abcdefghijklmnopqrstuvwxyz":
            for label in (letter, letter * 9, letter + "m" + letter):
                tree = [(-1, label, 1), (0, label, 2), (0, label, 1)]
                self.assertEqual(hung_rows(tree), [label, f"+-{label}:", f"'-{label}"])
                self.assertEqual(read_hung([label, f"+-{label}:", f"'-{label}"]), tree)

    def test_every_form_by_nesting(self):
        for form in FORMS:
            with self.subTest(form):
                rows = hung_rows(grown(form))
                self.assertIs(type(rows), list)
                self.assertEqual(rows, hung(form))
                self.assertEqual(read_hung(rows), grown(form))

    def test_strewn_trees_are_read_again(self):
        for seed in range(1, 41):
            tree = strewn(seed, seed)
            with self.subTest(tree):
                rows = hung_rows(tree)
                self.assertEqual(rows, hung(formed(tree)))
                told = read_hung(rows)
                self.assertEqual(told, tree)
                self.assertEqual(made_tree(told), tree)
                self.assertEqual([type(row) for row in told], [tuple] * len(tree))


class TestNoPicture(unittest.TestCase):
    def test_the_tests_own_judge(self):
        self.assertTrue(is_hung(HUNG))
        self.assertTrue(all(is_hung(hung(form)) for form in FORMS))
        self.assertFalse(is_hung(HUNG[:-1]))

    def refuse(self, rows):
        with self.subTest(rows), self.assertRaises(NoPicture):
            read_hung(rows)

    def refuse_row(self, number, row):
        self.refuse(HUNG[:number] + [row] + HUNG[number + 1:])

    def test_no_row_at_all(self):
        self.refuse([])

    def test_a_row_without_signs(self):
        self.refuse([""])
        self.refuse(["", "'-a"])
        for number in range(len(HUNG) + 1):
            self.refuse(HUNG[:number] + [""] + HUNG[number:])

    def test_blanks_behind_and_ahead(self):
        for number, row in enumerate(HUNG):
            for blank in (" ", "  ", "\n", "\t"):
                self.refuse_row(number, row + blank)
                self.refuse_row(number, blank + row)

    def test_other_signs(self):
        for number, row in enumerate(HUNG):
            for place in range(len(row)):
                for sign in "A0*(_.\u00e9\u2502\u00a0":
                    self.refuse_row(number, row[:place] + sign + row[place + 1:])
                    self.refuse_row(number, row[:place] + sign + row[place:])

    def test_signs_in_each_others_place(self):
        for number, row in enumerate(HUNG):
            for place, sign in enumerate(row):
                for other in {"+": "'- |", "'": "+- |", "|": " +'-", " ": "|+'-", "-": "+|' "}.get(sign, ""):
                    self.refuse_row(number, row[:place] + other + row[place + 1:])

    def test_rows_left_out(self):
        for number in range(len(HUNG)):
            for end in range(number + 1, len(HUNG) + 1):
                self.hold_reading(HUNG[:number] + HUNG[end:])
        # Without one of these rows a later one hangs nowhere, or the last child is none.
        for number in (0, 1, 2, 4, 6, 8, 10, 11, 13):
            self.refuse(HUNG[:number] + HUNG[number + 1:])

    def test_rows_in_each_others_place(self):
        for one in range(len(HUNG)):
            for other in range(one):
                rows = list(HUNG)
                rows[one] = HUNG[other]
                rows[other] = HUNG[one]
                self.hold_reading(rows)
        self.refuse(HUNG[::-1])

    def test_a_second_root(self):
        self.refuse(["a", "a"])
        self.refuse(["a", "'-b", "c"])
        self.refuse(HUNG + ["a"])
        self.refuse(HUNG + HUNG)
        self.refuse(["a", "b", "'-c"])

    def test_a_row_too_deep_or_out_of_line(self):
        self.refuse(["a", "  '-b"])
        self.refuse(["a", "| '-b"])
        self.refuse(["'-a"])
        self.refuse(["+-a", "'-b"])
        self.refuse(["a", "-b"])
        self.refuse(["a", " '-b"])
        self.refuse(["a", "'-b", "   '-c"])
        self.refuse(["a", "'-b", "    '-c"])
        self.refuse(["a", "'- b"])
        self.refuse(["a", "'--b"])

    def test_signs_alone(self):
        for row in (":", "::", "'-", "+-", "'-:", "| ", "  "):
            self.refuse([row])
            self.refuse(["a", row])
        self.refuse(["a:b"])
        self.refuse(["a", "'-:b"])

    def test_labels_of_nine_letters_and_not_ten(self):
        self.assertEqual(read_hung(["abcdefghi", "'-abcdefghi"]), [(-1, "abcdefghi", 1), (0, "abcdefghi", 1)])
        self.refuse(["abcdefghij"])
        self.refuse(["a", "'-abcdefghij"])
        self.refuse(["a", "+-" + "b" * 2000, "'-c"])

    def test_nine_rows_tall_and_not_ten(self):
        self.assertEqual(read_hung(["a" + ":" * 8, "'-b" + ":" * 8]), [(-1, "a", 9), (0, "b", 9)])
        self.refuse(["a" + ":" * 9])
        self.refuse(["a", "'-b" + ":" * 9])
        self.refuse(["a" + ":" * 1999])

    def test_level_eight_and_not_nine(self):
        self.assertEqual(read_hung(hung(line(9))), grown(line(9)))
        self.refuse(hung(line(10)))
        self.refuse(hung(("a", 1, [leaf(), line(9), leaf()])))
        self.refuse(hung(line(900)))

    def test_forty_rows_and_not_41(self):
        wide = wide_form()
        self.assertEqual(read_hung(hung(wide)), grown(wide))
        self.refuse(hung((wide[0], wide[1], wide[2] + [leaf()])))
        self.refuse(["a"] + ["+-b"] * 39 + ["'-b"])
        self.assertEqual(len(read_hung(["a"] + ["+-b"] * 38 + ["'-b"])), 40)

    def test_lists_of_two_thousand_texts_and_texts_of_two_thousand_signs(self):
        self.refuse(["a"] * 2000)
        self.refuse(["a"] + ["+-b"] * 1998 + ["'-b"])
        self.refuse(["a", "| " * 999 + "'-"])
        self.refuse(["a", " " * 2000])
        self.refuse(["-" * 2000])

    def test_every_change_of_one_sign_is_read_to_the_letter_or_refused(self):
        for form in all_forms(4, ["a", "bc"]):
            rows = hung(form)
            for number, row in enumerate(rows):
                for wrong in self.changes(row):
                    self.hold_reading(rows[:number] + [wrong] + rows[number + 1:])

    def changes(self, row):
        found = {row[:place] + row[place + 1:] for place in range(len(row))}
        for place in range(len(row) + 1):
            for sign in "a:|+'- ":
                found.add(row[:place] + sign + row[place:])
                found.add(row[:place] + sign + row[place + 1:])
        return sorted(found)

    def hold_reading(self, rows):
        if is_hung(rows):
            self.assertEqual(hung(formed(made_tree(read_hung(rows)))), rows)
        else:
            self.refuse(rows)


if __name__ == "__main__":
    unittest.main()
