"""The deeds of an easel [29]: what becomes of the whole and of what is folded, and what is refused."""

import unittest

from boughdraw.easel import Easel
from boughdraw.errors import DrawError, NoDeed, NoNode, NoPicture, NoPlace, NoText, NoTree, TooMany
from boughdraw.texts import read_tree, tree_text
from tests.helper import deep_form, grown, leaf, line, wide_form

REFUSALS = (NoTree, NoNode, NoText, NoPicture, TooMany, NoDeed, NoPlace)
FAR = 123456789012345678901234567890

# r is 0, a 1, b 2, c 3, d 4, e 5, f 6, g 7, h 8.
TEXT = "r(a(b,c(d,e)),f(g),h)"


def state(easel):
    return (easel.whole(), easel.folded(), easel.seen(), easel.drawing(), easel.redrawn())


class DeedTest(unittest.TestCase):
    def setUp(self):
        self.easel = Easel(read_tree(TEXT), 1)

    def hold(self, text, folded=()):
        """The easel has this tree, tall and all, and these nodes are folded."""
        self.assertEqual(tree_text(self.easel.whole()), text)
        self.assertEqual(self.easel.whole(), read_tree(text))
        self.assertEqual(self.easel.folded(), list(folded))

    def refuse(self, kind, deed, *arguments):
        """The deed is refused with just this class, and changes nothing."""
        before = state(self.easel)
        with self.subTest(str((deed, arguments))):
            with self.assertRaises(ValueError) as caught:
                getattr(self.easel, deed)(*arguments)
            self.assertIsInstance(caught.exception, DrawError)
            self.assertEqual([one for one in REFUSALS if isinstance(caught.exception, one)], [kind])
        self.assertEqual(state(self.easel), before)


class TestFold(DeedTest):
    def test_taken(self):
        self.assertIsNone(self.easel.fold(3))
        self.hold(TEXT, [3])
        self.easel.fold(0)
        self.hold(TEXT, [0, 3])
        self.easel.fold(1)
        self.hold(TEXT, [0, 1, 3])
        self.assertIsNone(self.easel.unfold(0))
        self.hold(TEXT, [1, 3])
        self.easel.unfold(3)
        self.hold(TEXT, [1])
        self.easel.fold(3)
        self.hold(TEXT, [1, 3])
        self.easel.unfold(1)
        self.easel.unfold(3)
        self.hold(TEXT)

    def test_a_node_without_children(self):
        for node in (2, 4, 5, 7, 8):
            self.refuse(NoDeed, "fold", node)
        self.easel.fold(6)
        self.hold(TEXT, [6])

    def test_a_folded_node_folded_again(self):
        self.easel.fold(1)
        self.refuse(NoDeed, "fold", 1)
        self.easel.fold(3)
        self.refuse(NoDeed, "fold", 3)
        self.hold(TEXT, [1, 3])

    def test_a_node_unfolded_that_is_not_folded(self):
        for node in range(9):
            self.refuse(NoDeed, "unfold", node)
        self.easel.fold(1)
        for node in (0, 2, 3, 4, 6):
            self.refuse(NoDeed, "unfold", node)
        self.easel.unfold(1)
        self.refuse(NoDeed, "unfold", 1)

    def test_one_node(self):
        self.easel = Easel([(-1, "a", 1)], 1)
        self.refuse(NoDeed, "fold", 0)
        self.refuse(NoDeed, "unfold", 0)


class TestNoNode(DeedTest):
    def test_numbers_that_none_has(self):
        tree = [(-1, "x", 1)]
        for number in (-1, -2, -9, 9, 10, 40, FAR, -FAR):
            self.refuse(NoNode, "fold", number)
            self.refuse(NoNode, "unfold", number)
            self.refuse(NoNode, "cut", number)
            self.refuse(NoNode, "put", number, 0, tree)
            self.refuse(NoNode, "move", number, 0, 0)
            self.refuse(NoNode, "move", 8, number, 0)
            self.refuse(NoNode, "move", number, number, 0)

    def test_numbers_are_those_of_the_whole(self):
        self.easel.fold(1)
        self.easel.cut(8)
        self.hold("r(a(b,c(d,e)),f(g))", [1])
        self.refuse(NoNode, "cut", 8)
        self.easel.put(5, 0, [(-1, "x", 1)])
        self.hold("r(a(b,c(d,e(x))),f(g))", [1])


class TestCut(DeedTest):
    def test_each_node(self):
        for node, text in enumerate(["r(f(g),h)", "r(a(c(d,e)),f(g),h)", "r(a(b),f(g),h)", "r(a(b,c(e)),f(g),h)",
                                     "r(a(b,c(d)),f(g),h)", "r(a(b,c(d,e)),h)", "r(a(b,c(d,e)),f,h)",
                                     "r(a(b,c(d,e)),f(g))"], start=1):
            self.easel = Easel(read_tree(TEXT), 1)
            self.assertIsNone(self.easel.cut(node))
            self.hold(text)

    def test_the_root(self):
        self.refuse(NoDeed, "cut", 0)
        self.easel = Easel([(-1, "a", 1)], 1)
        self.refuse(NoDeed, "cut", 0)

    def test_one_after_another(self):
        for text in ("r(f(g),h)", "r(h)", "r"):
            self.easel.cut(1)
            self.hold(text)
        self.refuse(NoNode, "cut", 1)

    def test_folds_stay_with_their_nodes(self):
        for node in (1, 3, 6):
            self.easel.fold(node)
        self.easel.cut(2)
        self.hold("r(a(c(d,e)),f(g),h)", [1, 2, 5])
        self.easel.cut(3)
        self.hold("r(a(c(e)),f(g),h)", [1, 2, 4])

    def test_folds_go_with_their_nodes(self):
        for node in (1, 3, 6):
            self.easel.fold(node)
        self.easel.cut(1)
        self.hold("r(f(g),h)", [1])

    def test_folds_go_with_the_last_child(self):
        for node in (1, 3, 6):
            self.easel.fold(node)
        self.easel.cut(7)
        self.hold("r(a(b,c(d,e)),f,h)", [1, 3])
        self.refuse(NoDeed, "unfold", 6)
        self.easel.cut(5)
        self.hold("r(a(b,c(d)),f,h)", [1, 3])
        self.easel.cut(4)
        self.hold("r(a(b,c),f,h)", [1])
        # What was folded once is not folded for it when children come again.
        self.easel.put(3, 0, [(-1, "x", 1)])
        self.hold("r(a(b,c(x)),f,h)", [1])


class TestPut(DeedTest):
    def test_each_place(self):
        new = "x*2(y,z*3)"
        for elder, place, text in [
                (0, 0, f"r({new},a(b,c(d,e)),f(g),h)"), (0, 1, f"r(a(b,c(d,e)),{new},f(g),h)"),
                (0, 2, f"r(a(b,c(d,e)),f(g),{new},h)"), (0, 3, f"r(a(b,c(d,e)),f(g),h,{new})"),
                (1, 0, f"r(a({new},b,c(d,e)),f(g),h)"), (1, 1, f"r(a(b,{new},c(d,e)),f(g),h)"),
                (1, 2, f"r(a(b,c(d,e),{new}),f(g),h)"), (2, 0, f"r(a(b({new}),c(d,e)),f(g),h)"),
                (3, 2, f"r(a(b,c(d,e,{new})),f(g),h)"), (8, 0, f"r(a(b,c(d,e)),f(g),h({new}))")]:
            self.easel = Easel(read_tree(TEXT), 1)
            self.assertIsNone(self.easel.put(elder, place, read_tree(new)))
            self.hold(text)

    def test_under_a_root_alone(self):
        self.easel = Easel([(-1, "a", 1)], 1)
        self.easel.put(0, 0, [(-1, "b", 2)])
        self.hold("a(b*2)")
        self.easel.put(0, 0, self.easel.whole())
        self.hold("a(a(b*2),b*2)")

    def test_places_that_are_none(self):
        tree = [(-1, "x", 1)]
        for elder, most in ((0, 3), (1, 2), (2, 0), (6, 1), (8, 0)):
            for place in (-1, -2, most + 1, most + 2, FAR, -FAR):
                self.refuse(NoPlace, "put", elder, place, tree)
        self.easel.put(6, 1, tree)
        self.hold("r(a(b,c(d,e)),f(g,x),h)")

    def test_folds_stay_with_their_nodes(self):
        for node in (0, 3, 6):
            self.easel.fold(node)
        self.easel.put(0, 0, read_tree("x(y,z)"))
        self.hold("r(x(y,z),a(b,c(d,e)),f(g),h)", [0, 6, 9])
        self.easel.put(6, 1, read_tree("w(v)"))
        self.hold("r(x(y,z),a(b,c(d,w(v),e)),f(g),h)", [0, 6, 11])

    def test_forty_nodes_are_the_most(self):
        self.easel = Easel(grown(("r", 1, [leaf("a")] * 30)), 1)
        for count in (10, 11, 39, 40, 41, 2000):
            self.refuse(NoTree, "put", 0, 0, [(-1, "x", 1)] + [(0, "y", 1)] * (count - 1))
        nine = [(-1, "x", 1)] + [(0, "y", 1)] * 8
        self.easel.put(0, 0, nine)
        self.assertEqual(len(self.easel.whole()), 40)
        self.refuse(NoTree, "put", 0, 0, [(-1, "x", 1)])
        self.easel.cut(1)
        self.easel.put(30, 0, nine)
        self.assertEqual(self.easel.whole()[30:32], [(0, "a", 1), (30, "x", 1)])

    def test_no_level_is_above_eight(self):
        self.easel = Easel(grown(line(5)), 1)
        for elder, count in ((4, 5), (0, 9), (3, 6), (4, 30), (0, 35)):
            self.refuse(NoTree, "put", elder, 0, grown(line(count)))
        for elder, count in ((4, 4), (0, 8), (3, 5)):
            self.easel = Easel(grown(line(5)), 1)
            self.easel.put(elder, 0, grown(line(count)))
            self.assertEqual(len(self.easel.whole()), 5 + count)

    def test_folded_nodes_count_too(self):
        self.easel = Easel(grown(wide_form()), 1)
        self.easel.fold(0)
        self.refuse(NoTree, "put", 0, 0, [(-1, "x", 1)])
        self.easel = Easel(grown(line(9)), 1)
        self.easel.fold(2)
        self.refuse(NoTree, "put", 8, 0, [(-1, "x", 1)])

    def test_labels_and_tall_beyond_the_bounds_are_not_refused(self):
        self.easel.put(8, 0, [(-1, "abcdefghij", 10)])
        self.assertEqual(self.easel.whole()[-1], (8, "abcdefghij", 10))


class TestMove(DeedTest):
    def move(self, node, elder, place, text, folded=()):
        self.assertIsNone(self.easel.move(node, elder, place))
        self.hold(text, folded)

    def test_to_elders_ahead_and_behind(self):
        for node, elder, place, text in [
                (1, 6, 0, "r(f(a(b,c(d,e)),g),h)"), (1, 6, 1, "r(f(g,a(b,c(d,e))),h)"),
                (1, 7, 0, "r(f(g(a(b,c(d,e)))),h)"), (1, 8, 0, "r(f(g),h(a(b,c(d,e))))"),
                (3, 0, 0, "r(c(d,e),a(b),f(g),h)"), (3, 0, 1, "r(a(b),c(d,e),f(g),h)"),
                (3, 0, 3, "r(a(b),f(g),h,c(d,e))"), (3, 2, 0, "r(a(b(c(d,e))),f(g),h)"),
                (6, 1, 0, "r(a(f(g),b,c(d,e)),h)"), (6, 1, 1, "r(a(b,f(g),c(d,e)),h)"),
                (6, 1, 2, "r(a(b,c(d,e),f(g)),h)"), (6, 3, 2, "r(a(b,c(d,e,f(g))),h)"),
                (6, 5, 0, "r(a(b,c(d,e(f(g)))),h)"), (7, 8, 0, "r(a(b,c(d,e)),f,h(g))"),
                (8, 6, 1, "r(a(b,c(d,e)),f(g,h))"), (8, 2, 0, "r(a(b(h),c(d,e)),f(g))"),
                (4, 1, 2, "r(a(b,c(e),d),f(g),h)"), (2, 3, 1, "r(a(c(d,b,e)),f(g),h)")]:
            self.easel = Easel(read_tree(TEXT), 1)
            self.move(node, elder, place, text)

    def test_within_one_elder(self):
        for node, place, text in [(1, 0, TEXT), (1, 1, "r(f(g),a(b,c(d,e)),h)"), (1, 2, "r(f(g),h,a(b,c(d,e)))"),
                                  (6, 0, "r(f(g),a(b,c(d,e)),h)"), (6, 1, TEXT), (6, 2, "r(a(b,c(d,e)),h,f(g))"),
                                  (8, 0, "r(h,a(b,c(d,e)),f(g))"), (8, 1, "r(a(b,c(d,e)),h,f(g))"), (8, 2, TEXT)]:
            self.easel = Easel(read_tree(TEXT), 1)
            self.move(node, 0, place, text)

    def test_places_are_counted_without_the_node(self):
        self.refuse(NoPlace, "move", 1, 0, 3)
        self.refuse(NoPlace, "move", 8, 0, 3)
        self.refuse(NoPlace, "move", 7, 6, 1)
        self.move(7, 6, 0, TEXT)
        self.move(1, 0, 2, "r(f(g),h,a(b,c(d,e)))")

    def test_places_that_are_none(self):
        for elder, most in ((0, 2), (1, 2), (2, 0), (3, 2), (8, 0)):
            for place in (-1, -2, most + 1, most + 2, FAR, -FAR):
                self.refuse(NoPlace, "move", 6, elder, place)

    def test_the_root(self):
        for elder in range(9):
            self.refuse(NoDeed, "move", 0, elder, 0)
        self.easel = Easel([(-1, "a", 1)], 1)
        self.refuse(NoDeed, "move", 0, 0, 0)

    def test_under_its_own_bough(self):
        for elder in (1, 2, 3, 4, 5):
            self.refuse(NoDeed, "move", 1, elder, 0)
        for elder in (3, 4, 5):
            self.refuse(NoDeed, "move", 3, elder, 0)
        self.refuse(NoDeed, "move", 8, 8, 0)
        self.move(3, 6, 0, "r(a(b),f(c(d,e),g),h)")

    def test_tall_and_labels_are_kept(self):
        self.easel = Easel(read_tree("r*2(ab*3(c*4,d),e*5)"), 1)
        self.easel.move(1, 4, 0)
        self.hold("r*2(e*5(ab*3(c*4,d)))")

    def test_folds_move_with_their_nodes(self):
        for node in (1, 3):
            self.easel.fold(node)
        self.move(1, 6, 1, "r(f(g,a(b,c(d,e))),h)", [3, 5])
        self.move(5, 0, 0, "r(c(d,e),f(g,a(b)),h)", [1, 6])

    def test_folds_stay_with_their_nodes(self):
        for node in (0, 3, 6):
            self.easel.fold(node)
        self.move(2, 8, 0, "r(a(c(d,e)),f(g),h(b))", [0, 2, 5])
        self.move(7, 2, 0, "r(a(c(h(b),d,e)),f(g))", [0, 2, 7])

    def test_folds_go_with_the_last_child(self):
        for node in (1, 3, 6):
            self.easel.fold(node)
        self.move(7, 0, 0, "r(g,a(b,c(d,e)),f,h)", [2, 4])
        self.refuse(NoDeed, "fold", 7)
        self.move(5, 0, 0, "r(d,g,a(b,c(e)),f,h)", [3, 5])
        self.move(6, 3, 0, "r(d,g,a(e,b,c),f,h)", [3])

    def test_a_move_is_one_deed(self):
        # The only child of a folded node is moved to where it was: the node has children behind the deed.
        self.easel.fold(6)
        self.move(7, 6, 0, TEXT, [6])

    def test_forty_nodes(self):
        self.easel = Easel(grown(wide_form()), 1)
        self.easel.move(39, 0, 0)
        self.assertEqual(len(self.easel.whole()), 40)
        self.assertEqual(self.easel.whole()[1], (0, "efghi", 3))

    def test_no_level_is_above_eight(self):
        self.easel = Easel(grown(("r", 1, [line(7), line(3)])), 1)
        self.refuse(NoTree, "move", 8, 7, 0)
        self.refuse(NoTree, "move", 8, 6, 0)
        self.refuse(NoTree, "move", 1, 10, 0)
        self.refuse(NoTree, "move", 1, 9, 0)
        self.easel.move(8, 5, 0)
        self.assertEqual(self.easel.whole()[6], (5, "a", 1))
        self.easel = Easel(grown(deep_form()), 1)
        self.refuse(NoTree, "move", 1, 16, 0)

    def test_up_and_down_again(self):
        self.easel = Easel(grown(line(9)), 1)
        self.easel.move(8, 0, 0)
        self.assertEqual(self.easel.whole(), grown(("a", 1, [leaf(), line(7)])))
        self.easel.move(1, 8, 0)
        self.assertEqual(self.easel.whole(), grown(line(9)))


class TestOrder(DeedTest):
    """Where two refusals meet: NoNode, NoDeed, NoPlace, NoTree."""

    def setUp(self):
        self.easel = Easel(grown(("r", 1, [line(8)] + [leaf("a")] * 31)), 1)
        self.wide = grown(wide_form())

    def test_no_node_ahead_of_all(self):
        for number in (-1, 40, FAR):
            self.refuse(NoNode, "put", number, -1, self.wide)
            self.refuse(NoNode, "put", number, 99, [(-1, "x", 1)])
            self.refuse(NoNode, "put", number, 0, self.wide)
            self.refuse(NoNode, "move", 0, number, 0)
            self.refuse(NoNode, "move", 0, number, 99)
            self.refuse(NoNode, "move", number, 8, -1)
            self.refuse(NoNode, "move", 9, number, -1)

    def test_no_deed_ahead_of_places_and_trees(self):
        for place in (-1, 99, FAR):
            self.refuse(NoDeed, "move", 0, 9, place)
            self.refuse(NoDeed, "move", 0, 8, place)
            self.refuse(NoDeed, "move", 0, 0, place)
            self.refuse(NoDeed, "move", 1, 1, place)
            self.refuse(NoDeed, "move", 1, 8, place)
        self.refuse(NoDeed, "move", 1, 8, 0)

    def test_no_place_ahead_of_trees(self):
        for place in (-1, 33, FAR):
            self.refuse(NoPlace, "put", 0, place, self.wide)
            self.refuse(NoPlace, "put", 8, place, [(-1, "x", 1)])
            self.refuse(NoPlace, "move", 9, 8, place)
        self.refuse(NoTree, "put", 0, 32, self.wide)
        self.refuse(NoTree, "put", 8, 0, [(-1, "x", 1)])
        self.refuse(NoTree, "move", 9, 8, 0)

    def test_behind_refusals_the_next_good_deed_is_taken(self):
        self.refuse(NoNode, "cut", 40)
        self.easel.cut(39)
        self.refuse(NoDeed, "unfold", 1)
        self.easel.fold(1)
        self.refuse(NoPlace, "move", 38, 0, 31)
        self.easel.move(38, 0, 30)
        self.refuse(NoTree, "put", 0, 0, grown(line(2)))
        self.easel.put(0, 0, [(-1, "x", 1)])
        self.refuse(NoDeed, "fold", 2)
        self.easel.unfold(2)
        self.assertEqual(self.easel.whole(), grown(("r", 1, [leaf("x"), line(8)] + [leaf("a")] * 30)))


if __name__ == "__main__":
    unittest.main()
