import re
import unittest

from boughdraw.errors import NoText, NoTree
from boughdraw.texts import read_tree, tree_text
from boughdraw.trees import made_tree
from tests.helper import all_forms, deep_form, fine_form, grown, line, strewn, wide_form

FORMS = all_forms(6, ["a", "bc", "defghijkl"]) + [line(9), wide_form(), deep_form(), fine_form()]
ORDINARY = "ab*3(c,de(f,g*2))"


def written(form):
    """The text of a form by the document's words, from within to without."""
    tall = "*" + str(form[1]) if form[1] > 1 else ""
    inner = "(" + ",".join(written(child) for child in form[2]) + ")" if form[2] else ""
    return form[0] + tall + inner


def is_told(text):
    """Whether a text has the form of a tree's: each bough is put down to a single N, the innermost first."""
    if "N" in text:
        return False
    bough = re.compile(r"(?<![a-z])[a-z]{1,9}(\*[2-9])?(\(N(,N)*\))?(?=[,)]|\Z)")
    ahead = None
    while text != ahead:
        ahead = text
        text = bough.sub("N", text)
    return text == "N"


def changed(text):
    """Every text that one sign left out, put in or put in another's place makes of this one."""
    signs = "az*(),129 AN"
    found = {text[:place] + text[place + 1:] for place in range(len(text))}
    for place in range(len(text) + 1):
        for sign in signs:
            found.add(text[:place] + sign + text[place:])
            found.add(text[:place] + sign + text[place + 1:])
    return sorted(found)


def wide_text(count):
    """A text of so many signs: a root with as many children as it takes."""
    more = (count - 4) // 2
    text = "a(" + "b," * more + "c" * (count - 3 - 2 * more) + ")"
    assert len(text) == count
    return text


class TestTreeText(unittest.TestCase):
    def test_the_documents_own(self):
        tree = [(-1, "ab", 3), (0, "c", 1), (0, "de", 1), (2, "f", 1), (2, "g", 2)]
        self.assertEqual(tree_text(tree), ORDINARY)
        self.assertEqual(read_tree(ORDINARY), tree)

    def test_one_node(self):
        self.assertEqual(tree_text([(-1, "a", 1)]), "a")
        self.assertEqual(tree_text([(-1, "abcdefghi", 9)]), "abcdefghi*9")
        self.assertEqual(read_tree("a"), [(-1, "a", 1)])
        self.assertEqual(read_tree("rstuvwxyz*9"), [(-1, "rstuvwxyz", 9)])

    def test_tall_from_one_to_nine(self):
        self.assertEqual(tree_text([(-1, "a", 1)]), "a")
        self.assertEqual(tree_text([(-1, "a", 1), (0, "b", 1)]), "a(b)")
        for tall in range(2, 10):
            with self.subTest(tall):
                self.assertEqual(tree_text([(-1, "a", tall), (0, "b", tall)]), f"a*{tall}(b*{tall})")
                self.assertEqual(read_tree(f"a*{tall}(b*{tall})"), [(-1, "a", tall), (0, "b", tall)])

    def test_every_letter(self):
        for letter in "abcdefghijklmnopqrstuvwxyz":
            for label in (letter, letter * 9, letter + "m" + letter):
                tree = [(-1, label, 1), (0, label, 2), (0, label, 1)]
                self.assertEqual(tree_text(tree), f"{label}({label}*2,{label})")
                self.assertEqual(read_tree(f"{label}({label}*2,{label})"), tree)
                with self.assertRaises(NoText):
                    read_tree("a*" + letter)

    def test_a_line_of_nine(self):
        text = "a(a(a(a(a(a(a(a(a))))))))"
        self.assertEqual(tree_text(grown(line(9))), text)
        self.assertEqual(read_tree(text), grown(line(9)))

    def test_a_root_with_39_children(self):
        tree = [(-1, "root", 2)] + [(0, "b", 1)] * 39
        text = "root*2(" + "b," * 38 + "b)"
        self.assertEqual(tree_text(tree), text)
        self.assertEqual(read_tree(text), tree)

    def test_written_and_read_again(self):
        for tree in [grown(form) for form in FORMS] + [strewn(seed, seed) for seed in range(1, 41)]:
            with self.subTest(tree):
                text = tree_text(tree)
                self.assertIs(type(text), str)
                told = read_tree(text)
                self.assertEqual(told, tree)
                self.assertEqual(made_tree(told), tree)
                self.assertEqual([type(row) for row in told], [tuple] * len(tree))

    def test_every_form_by_the_words(self):
        for form in FORMS:
            with self.subTest(form):
                self.assertEqual(tree_text(grown(form)), written(form))
                self.assertEqual(read_tree(written(form)), grown(form))


class TestNoText(unittest.TestCase):
    def refuse(self, text):
        with self.subTest(text), self.assertRaises(NoText):
            read_tree(text)

    def test_without_signs(self):
        self.refuse("")

    def test_a_blank_anywhere(self):
        for place in range(len(ORDINARY) + 1):
            for blank in (" ", "\n", "\t", "\u00a0"):
                self.refuse(ORDINARY[:place] + blank + ORDINARY[place:])
        self.refuse(" ")

    def test_capital_letters_and_other_signs(self):
        for sign in ("A", "Z", "0", "1", "-", "_", "'", "[", "]", ";", "{", "`", "\x00", "\u00e9", "\u00aa", "\uff41",
                     "\u0660", "\u00b2", "\uff12", "\ud800"):
            for text in (sign, "a" + sign, sign + "a", f"a({sign})", f"a(b{sign})", f"a(b,{sign}c)", f"a(b){sign}"):
                self.refuse(text)

    def test_wrong_tall(self):
        for tall in ("*1", "*0", "*10", "*", "*22", "*02", "**2", "*2*2", "*-2", "*+2", "*a", "*2a", "*\u0662",
                     "*\uff12"):
            self.refuse("a" + tall)
            self.refuse(f"a{tall}(b)")
            self.refuse(f"a(b{tall},c)")
            self.refuse(f"a(b,c{tall})")
        self.refuse("*2")
        self.refuse("a(b)*2")

    def test_wrong_labels(self):
        for text in ("abcdefghij", "a(abcdefghij)", "abcdefghij*2(a)", "a" * 600, "(a)", "a((b))", "a(*2)", "a(b,*2)"):
            self.refuse(text)

    def test_brackets(self):
        for text in ("a()", "a(b())", "()", "(", ")", "a(", "a)", "a(b", "a(b(c)", "a(b))", "a)b(", "a(b)(c)",
                     "a(b(c)(d))", "a(b)c", "a(b(c)d)", "a(b)a", "a(b),", "a(b(c)),d", ")a(b)", "a(b]"):
            self.refuse(text)

    def test_commas(self):
        for text in (",", "a,", ",a", "a,b", "a(,b)", "a(b,)", "a(b,,c)", "a(,)", "a(b,c),", ",a(b)", "a(b,c,)",
                     "a(b(c,),d)", "a(b(,c),d)", "a,(b)", "a(b,(c))"):
            self.refuse(text)

    def test_things_that_are_no_texts(self):
        for thing in (None, 0, 1, -1, 10 ** 29, [], ["a"], list("a(b)"), (), ("a",), {}, {"a": 1}, b"a", b"", b"a(b)",
                      bytearray(b"a"), True, False, 1.5, [(-1, "a", 1)]):
            self.refuse(thing)

    def test_more_than_600_signs(self):
        for count in (601, 602, 2000):
            self.assertTrue(is_told(wide_text(count)))
            self.refuse(wide_text(count))
            self.refuse("a" * count)

    def test_brackets_101_deep(self):
        for depth in (101, 102, 149, 199):
            text = "a(" * depth + "a" + ")" * depth
            self.assertLessEqual(len(text), 600)
            self.assertTrue(is_told(text))
            self.refuse(text)
        self.refuse("a(b," + "a(" * 100 + "a" + ")" * 100 + ",c)")
        self.refuse("a(" * 600)

    def test_wrong_texts_of_too_many_nodes(self):
        many = "a(" + "b," * 50 + "b)"
        self.assertTrue(is_told(many))
        for text in (many + "c", many[:-1], many[:-2] + ")", many[:-1] + ",)", many + ")", many.replace("a", "A"),
                     many[:-2] + "*1)", "a(" * 12 + "a" + ")" * 11, "a(" * 12 + ")" * 12, "a(" * 100 + "a" + ")" * 99):
            self.refuse(text)

    def test_every_change_of_one_sign(self):
        for text in ("a", "a*2", "a(b)", "a(b,c)", "abcdefghi*9(a)", "a(b(c),d)", ORDINARY):
            for wrong in changed(text):
                if is_told(wrong):
                    self.assertEqual(tree_text(read_tree(wrong)), wrong)
                else:
                    self.refuse(wrong)


class TestNoTree(unittest.TestCase):
    def refuse(self, text):
        self.assertLessEqual(len(text), 600)
        self.assertTrue(is_told(text))
        with self.subTest(text), self.assertRaises(NoTree):
            read_tree(text)

    def test_forty_nodes_and_not_one_more(self):
        self.assertEqual(len(read_tree("a(" + "b," * 38 + "b)")), 40)
        self.refuse("a(" + "b," * 39 + "b)")
        self.refuse("a(" + "b(c,d)," * 13 + "b)")
        self.assertEqual(len(read_tree("a(" + "b(c,d)," * 12 + "b(c,d))")), 40)

    def test_level_eight_and_not_nine(self):
        self.assertEqual(len(read_tree("a(" * 8 + "a" + ")" * 8)), 9)
        self.refuse("a(" * 9 + "a" + ")" * 9)
        self.refuse("a(b," + "a(" * 8 + "a" + ")" * 8 + ",c)")

    def test_brackets_a_hundred_deep(self):
        for depth in (10, 39, 40, 99, 100):
            self.refuse("a(" * depth + "a" + ")" * depth)
        self.refuse("a(b," + "a(" * 99 + "a" + ")" * 99 + ",c)")
        # Many brackets, but no more than a hundred deep.
        self.refuse("a(" + "b(c)," * 110 + "b)")

    def test_600_signs(self):
        # No tree has a text so long (the next test has the longest), so this one tells too many nodes.
        self.refuse(wide_text(599))
        self.refuse(wide_text(600))

    def test_the_longest_texts_of_trees_are_read(self):
        node = "abcdefghi*9"

        def hanging(count):
            return "(".join([node] * count) + ")" * (count - 1)

        text = node + "(" + ",".join([hanging(8)] * 4 + [hanging(7)]) + ")"
        self.assertEqual(len(text), 514)
        tree = read_tree(text)
        self.assertEqual(len(tree), 40)
        self.assertEqual(tree_text(tree), text)


if __name__ == "__main__":
    unittest.main()
