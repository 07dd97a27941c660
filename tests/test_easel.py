"""What an easel tells [28], which nodes were drawn anew [30], and rows of many deeds [3]."""

import copy
import itertools
import unittest

from boughdraw.boughs import bough_of
from boughdraw.easel import Easel
from boughdraw.errors import DrawError, NoDeed, NoNode, NoPlace, NoTree
from boughdraw.hung import hung_rows, read_hung
from boughdraw.pictures import picture
from boughdraw.places import drawn
from boughdraw.readers import read_picture
from boughdraw.rules import broken, unlike
from boughdraw.texts import read_tree, tree_text
from boughdraw.trees import made_tree
from tests.helper import Judge, deep_form, fine_form, formed, grown, leaf, line, rolled, strewn, wide_form

# r is 0, a 1, b 2, c 3, d 4, e 5, f 6, g 7, h 8.
TEXT = "r(a(b,c*2(d,efg)),f(g),h)"
TREE = read_tree(TEXT)
QUESTIONS = ("whole", "folded", "seen", "drawing", "redrawn")


def state(easel):
    return [getattr(easel, question)() for question in QUESTIONS]


def offsets(tree, places, node):
    """Where the nodes of a bough stand, told from its root's place."""
    return [place - places[node] for place in places[node:node + len(bough_of(tree, node))]]


class TestTold(unittest.TestCase):
    def hold(self, easel, whole, folded, seen, numbers, gap=1):
        tree = read_tree(seen)
        self.assertEqual(easel.whole(), read_tree(whole))
        self.assertEqual(easel.folded(), folded)
        self.assertEqual(easel.seen(), (tree, numbers))
        self.assertEqual(easel.drawing(), drawn(tree, gap))

    def test_ahead_of_any_deed(self):
        for tree in (TREE, [(-1, "a", 9)], grown(wide_form()), grown(deep_form())):
            for gap in (1, 20):
                easel = Easel(tree, gap)
                numbers = list(range(len(tree)))
                self.assertEqual(state(easel), [tree, [], (tree, numbers), drawn(tree, gap), numbers])
                self.assertEqual([type(told) for told in state(easel)], [list, list, tuple, list, list])
                self.assertEqual([type(told) for told in easel.seen()], [list, list])

    def test_folds_within_folds(self):
        easel = Easel(TREE, 2)
        easel.fold(3)
        self.hold(easel, TEXT, [3], "r(a(b,c*2),f(g),h)", [0, 1, 2, 3, 6, 7, 8], 2)
        easel.fold(1)
        self.hold(easel, TEXT, [1, 3], "r(a,f(g),h)", [0, 1, 6, 7, 8], 2)
        easel.fold(6)
        self.hold(easel, TEXT, [1, 3, 6], "r(a,f,h)", [0, 1, 6, 8], 2)
        easel.fold(0)
        self.hold(easel, TEXT, [0, 1, 3, 6], "r", [0], 2)
        easel.unfold(1)
        self.hold(easel, TEXT, [0, 3, 6], "r", [0], 2)
        easel.unfold(0)
        self.hold(easel, TEXT, [3, 6], "r(a(b,c*2),f,h)", [0, 1, 2, 3, 6, 8], 2)
        easel.unfold(3)
        self.hold(easel, TEXT, [6], "r(a(b,c*2(d,efg)),f,h)", [0, 1, 2, 3, 4, 5, 6, 8], 2)

    def test_a_node_that_is_not_seen_is_folded_and_unfolded(self):
        easel = Easel(TREE, 1)
        easel.fold(1)
        easel.fold(3)
        self.hold(easel, TEXT, [1, 3], "r(a,f(g),h)", [0, 1, 6, 7, 8])
        easel.unfold(1)
        self.hold(easel, TEXT, [3], "r(a(b,c*2),f(g),h)", [0, 1, 2, 3, 6, 7, 8])
        easel.fold(1)
        easel.unfold(3)
        easel.unfold(1)
        self.hold(easel, TEXT, [], TEXT, list(range(9)))

    def test_behind_each_deed(self):
        easel = Easel(TREE, 1)
        easel.fold(1)
        easel.put(3, 0, read_tree("x(y)"))
        self.hold(easel, "r(a(b,c*2(x(y),d,efg)),f(g),h)", [1], "r(a,f(g),h)", [0, 1, 8, 9, 10])
        easel.move(8, 10, 0)
        self.hold(easel, "r(a(b,c*2(x(y),d,efg)),h(f(g)))", [1], "r(a,h(f(g)))", [0, 1, 8, 9, 10])
        easel.move(3, 0, 2)
        self.hold(easel, "r(a(b),h(f(g)),c*2(x(y),d,efg))", [1], "r(a,h(f(g)),c*2(x(y),d,efg))",
                  [0, 1, 3, 4, 5, 6, 7, 8, 9, 10])
        easel.cut(2)
        self.hold(easel, "r(a,h(f(g)),c*2(x(y),d,efg))", [], "r(a,h(f(g)),c*2(x(y),d,efg))", list(range(10)))
        easel.fold(3)
        self.hold(easel, "r(a,h(f(g)),c*2(x(y),d,efg))", [3], "r(a,h(f),c*2(x(y),d,efg))", [0, 1, 2, 3, 5, 6, 7, 8, 9])

    def test_asked_in_several_orders(self):
        expected = None
        for order in itertools.permutations(QUESTIONS):
            easel = Easel(TREE, 1)
            told = [{question: getattr(easel, question)() for question in order}]
            easel.fold(3)
            told.append({question: getattr(easel, question)() for question in order * 2})
            easel.move(3, 6, 0)
            told.append({question: getattr(easel, question)() for question in order})
            expected = expected or told
            self.assertEqual(told, expected)
        unasked = Easel(TREE, 1)
        unasked.fold(3)
        unasked.move(3, 6, 0)
        self.assertEqual(dict(zip(QUESTIONS, state(unasked))), expected[-1])

    def test_two_easels(self):
        tree = list(TREE)
        one, other, third = Easel(tree, 1), Easel(tree, 1), Easel(tree, 20)
        first = state(one)
        other.fold(1)
        other.cut(8)
        third.put(0, 0, tree)
        self.assertEqual(state(one), first)
        one.fold(6)
        self.assertEqual(other.folded(), [1])
        self.assertEqual(other.whole(), read_tree("r(a(b,c*2(d,efg)),f(g))"))
        self.assertEqual(one.whole(), TREE)
        self.assertEqual(one.folded(), [6])
        self.assertEqual(third.folded(), [])
        self.assertEqual(len(third.whole()), 18)
        self.assertEqual(tree, TREE)
        fourth = Easel(one.whole(), 1)
        self.assertEqual(fourth.folded(), [])
        self.assertEqual(one.folded(), [6])

    def test_trees_somewhat_beyond_the_bounds_are_not_refused(self):
        for form in (("r", 1, [leaf("a")] * 40), line(10), ("abcdefghij", 10, [leaf()])):
            tree = grown(form)
            easel = Easel(tree, 21)
            self.assertEqual(easel.whole(), tree)
            self.assertEqual(easel.drawing(), drawn(tree, 21))
            easel.fold(0)
            self.assertEqual(easel.seen(), (tree[:1], [0]))
            easel.cut(1)
            self.assertEqual(len(easel.whole()), 40 if len(tree) == 41 else 1)


class TestCopies(unittest.TestCase):
    def test_the_tree_handed_in_is_altered(self):
        tree = list(TREE)
        easel = Easel(tree, 1)
        before = state(easel)
        tree[3] = (0, "zzz", 9)
        tree.append((0, "y", 1))
        self.assertEqual(state(easel), before)
        tree.clear()
        self.assertEqual(state(easel), before)

    def test_the_tree_put_is_altered(self):
        tree = read_tree("x(y,z)")
        easel = Easel(TREE, 1)
        easel.put(8, 0, tree)
        self.assertEqual(tree, read_tree("x(y,z)"))
        before = state(easel)
        tree[0] = (-1, "w", 5)
        tree.append((0, "y", 1))
        self.assertEqual(state(easel), before)

    def test_what_was_told_is_altered(self):
        easel = Easel(TREE, 1)
        deeds = [("fold", 3), ("move", 3, 6, 0), ("put", 8, 0, read_tree("x(y,z)")), ("cut", 1), ("unfold", 2),
                 ("fold", 0)]
        for deed, *arguments in [(None,)] + deeds:
            if deed is not None:
                getattr(easel, deed)(*arguments)
            before = copy.deepcopy(state(easel))
            for told in (easel.whole(), easel.folded(), *easel.seen(), easel.drawing(), easel.redrawn()):
                told.append(0)
                told[0] = -5
                told.reverse()
                self.assertEqual(state(easel), before)
        fresh = Easel(TREE, 1)
        for deed, *arguments in deeds:
            getattr(fresh, deed)(*arguments)
        self.assertEqual(state(fresh), state(easel))

    def test_what_was_told_stays_behind_later_deeds(self):
        easel = Easel(TREE, 1)
        easel.fold(3)
        told = state(easel)
        kept = copy.deepcopy(told)
        easel.put(0, 0, read_tree("x(y,z)"))
        easel.unfold(6)
        easel.cut(4)
        self.assertEqual(told, kept)


class TestRedrawn(unittest.TestCase):
    def setUp(self):
        self.easel = Easel(TREE, 1)

    def hold(self, deed, arguments, redrawn):
        with self.subTest((deed, arguments)):
            getattr(self.easel, deed)(*arguments)
            self.assertEqual(self.easel.redrawn(), redrawn)
            self.assertEqual(self.easel.redrawn(), redrawn)

    def test_ahead_of_the_first_deed(self):
        self.assertEqual(self.easel.redrawn(), list(range(9)))
        self.assertEqual(Easel([(-1, "a", 1)], 1).redrawn(), [0])
        with self.assertRaises(DrawError):
            self.easel.cut(0)
        self.assertEqual(self.easel.redrawn(), list(range(9)))

    def test_fold(self):
        self.hold("fold", [3], [0, 1, 3])
        self.hold("fold", [6], [0, 4])
        self.hold("fold", [1], [0, 1])
        self.hold("fold", [0], [0])

    def test_fold_out_of_sight(self):
        self.hold("fold", [1], [0, 1])
        self.hold("fold", [3], [])
        self.hold("unfold", [3], [])
        self.hold("unfold", [1], [0, 1, 2, 3, 4, 5])

    def test_unfold_tells_all_that_came_into_sight(self):
        self.hold("fold", [3], [0, 1, 3])
        self.hold("fold", [1], [0, 1])
        self.hold("unfold", [1], [0, 1, 2, 3])
        self.hold("unfold", [3], [0, 1, 3, 4, 5])

    def test_cut(self):
        self.hold("cut", [4], [0, 1, 3])
        self.hold("cut", [7], [0])
        self.hold("cut", [2], [0, 1])
        self.hold("cut", [3], [0, 1, 2])

    def test_cut_out_of_sight(self):
        self.hold("fold", [1], [0, 1])
        # The elder that the node had is not seen.
        self.hold("cut", [4], [])
        # A folded elder is touched as any other, though its children aren't seen.
        self.hold("cut", [2], [0, 1])
        self.hold("cut", [2], [0, 1])
        self.assertEqual(self.easel.folded(), [])

    def test_put(self):
        self.hold("put", [3, 1, read_tree("x(y,z)")], [0, 1, 3, 5, 6, 7])
        self.hold("put", [0, 3, [(-1, "w", 1)]], [0, 12])
        self.hold("put", [12, 0, [(-1, "v", 1)]], [0, 12, 13])

    def test_put_out_of_sight(self):
        self.hold("fold", [1], [0, 1])
        self.hold("put", [1, 0, read_tree("x(y,z)")], [0, 1])
        self.hold("put", [2, 0, read_tree("x(y,z)")], [])
        self.hold("put", [0, 0, read_tree("x(y,z)")], [0, 1, 2, 3])

    def test_move_in_sight(self):
        # Both elders and those above them; the moved nodes were seen, and are.
        self.hold("move", [3, 6, 0], [0, 1, 3])
        self.assertEqual(tree_text(self.easel.whole()), "r(a(b),f(c*2(d,efg),g),h)")
        self.hold("move", [7, 4, 1], [0, 3, 4])
        self.hold("move", [5, 4, 2], [0, 3, 4])
        self.hold("move", [1, 0, 0], [0])

    def test_move_under_its_elders_elder(self):
        self.hold("move", [4, 1, 0], [0, 1, 4])
        self.hold("move", [4, 0, 0], [0, 3])

    def test_move_into_sight(self):
        self.hold("fold", [1], [0, 1])
        self.hold("move", [3, 8, 0], [0, 1, 4, 5, 6, 7])

    def test_move_into_sight_with_a_fold(self):
        self.hold("fold", [3], [0, 1, 3])
        self.hold("fold", [1], [0, 1])
        self.hold("move", [3, 8, 0], [0, 1, 4, 5])

    def test_move_from_under_a_hidden_elder(self):
        self.hold("fold", [1], [0, 1])
        self.hold("move", [4, 8, 0], [0, 4, 5])

    def test_move_out_of_sight(self):
        self.hold("fold", [1], [0, 1])
        self.hold("move", [6, 1, 0], [0, 1])
        self.hold("move", [8, 5, 0], [0])

    def test_move_where_nothing_is_seen(self):
        self.hold("fold", [1], [0, 1])
        self.hold("move", [5, 2, 0], [])
        self.hold("move", [2, 4, 0], [0, 1])
        self.hold("fold", [0], [0])
        self.hold("move", [7, 8, 0], [])
        self.hold("move", [6, 8, 0], [0])

    def test_behind_a_refused_deed_as_ahead_of_it(self):
        self.hold("fold", [3], [0, 1, 3])
        for deed, *arguments in [("fold", 3), ("unfold", 1), ("cut", 0), ("cut", 99), ("put", 0, 9, [(-1, "x", 1)]),
                                 ("put", 0, 0, grown(wide_form())), ("move", 1, 3, 0), ("move", 8, 0, 3)]:
            with self.assertRaises(DrawError):
                getattr(self.easel, deed)(*arguments)
            self.assertEqual(self.easel.redrawn(), [0, 1, 3])
        self.hold("unfold", [3], [0, 1, 3, 4, 5])


# Each deed as it was taken, and as it was refused: all of these are to come up.
OUTCOMES = {(deed, refusal) for deed, refusals in [
    ("fold", [NoNode, NoDeed]), ("unfold", [NoNode, NoDeed]), ("cut", [NoNode, NoDeed]),
    ("put", [NoNode, NoPlace, NoTree]), ("move", [NoNode, NoDeed, NoPlace, NoTree])] for refusal in [None] + refusals}


def some_tree(number):
    if number % 5 == 0:
        return strewn(number, number % 13 + 1)
    return read_tree(["x*2", "x(y,z*3)", "abcd(e(f),g)", "a(b(c(d(e))))"][number % 4])


def some_deed(judge, numbers):
    """A deed drawn by the row of numbers: now and then one that is refused."""
    count = len(judge.whole())
    # The upper parts of these numbers look strewn, the lower ones don't.
    rolls = [next(numbers) // 65536 for step in range(5)]
    node, elder = [count if roll % 29 == 0 else roll % (count + 1) - 1 for roll in rolls[:2]]
    place = rolls[2] % 5 - (rolls[2] % 11 == 0) if rolls[2] % 2 == 0 else 0
    kind = rolls[3] % (8 if count > 20 else 7)
    if kind == 0:
        return ("fold", [node])
    if kind == 1:
        folds = judge.folded()
        return ("unfold", [folds[node % len(folds)] if folds else node])
    if kind < 5:
        return ("move", [node, elder, place])
    return ("put", [elder, place, some_tree(rolls[4])]) if kind < 7 else ("cut", [node])


class TestRowsOfDeeds(unittest.TestCase):
    def hold_told(self, easel, judge, gap):
        seen, numbers = easel.seen()
        self.assertEqual(easel.whole(), judge.whole())
        self.assertEqual(easel.folded(), judge.folded())
        self.assertEqual((seen, numbers), judge.seen())
        self.assertEqual(easel.drawing(), drawn(made_tree(seen), gap))
        self.assertEqual(easel.redrawn(), judge.anew)

    def hold_seen(self, easel, gap):
        tree, places = easel.seen()[0], easel.drawing()
        self.assertEqual(read_tree(tree_text(tree)), tree)
        self.assertEqual(read_hung(hung_rows(tree)), tree)
        self.assertEqual(read_picture(picture(tree, gap), gap), tree)
        self.assertEqual(broken(tree, places, gap), [])
        self.assertEqual(unlike(tree, places), [])

    def hold_others(self, before, after, redrawn):
        """Each node that was not drawn anew has its bough as ahead of the deed, seen and drawn from its place on."""
        twigs, tree, places = before
        later_twigs, later_tree, later_places = after
        for node, twig in enumerate(later_twigs):
            if node not in redrawn:
                was = twigs.index(twig)
                self.assertEqual(bough_of(later_tree, node), bough_of(tree, was))
                self.assertEqual(offsets(later_tree, later_places, node), offsets(tree, places, was))

    def run_deeds(self, form, gap, seed, steps):
        easel, judge = Easel(grown(form), gap), Judge(form)
        numbers = rolled(seed)
        taken = {}
        for step in range(steps):
            deed, arguments = some_deed(judge, numbers)
            refusal = judge.refusal(deed, arguments)
            before = (judge.root.in_sight(), easel.seen()[0], easel.drawing())
            told = state(easel)
            if refusal is None:
                getattr(easel, deed)(*arguments)
                judge.do(deed, arguments)
                self.hold_others(before, (judge.root.in_sight(), easel.seen()[0], easel.drawing()), judge.anew)
                self.hold_told(easel, judge, gap)
                self.hold_seen(easel, gap)
            else:
                with self.assertRaises(refusal):
                    getattr(easel, deed)(*arguments)
                self.assertEqual(state(easel), told)
            taken[(deed, refusal)] = taken.get((deed, refusal), 0) + 1
        return taken

    def test_rows_of_deeds(self):
        taken = {}
        for seed in range(30):
            form = [leaf(), formed(strewn(seed, 12)), line(9), fine_form(), wide_form()][seed % 5]
            with self.subTest(seed):
                for key, count in self.run_deeds(form, (1, 2, 20)[seed % 3], seed, 60).items():
                    taken[key] = taken.get(key, 0) + count
        self.assertEqual(set(taken), OUTCOMES)


if __name__ == "__main__":
    unittest.main()
