"""How things change hands [2]: for each function, nothing handed in is altered, and what was told is the asker's."""

import copy
import unittest

from boughdraw.boughs import bough_of, likeness, mirrored
from boughdraw.easel import Easel
from boughdraw.errors import DrawError, TooMany
from boughdraw.hung import hung_rows, read_hung
from boughdraw.least import narrowest
from boughdraw.pictures import picture
from boughdraw.places import drawn, outline_of, tops
from boughdraw.pulls import is_paper, leans, worth
from boughdraw.readers import read_picture
from boughdraw.room import nearest, room_of
from boughdraw.rules import broken, unlike, width_of
from boughdraw.sheets import boxes, lines
from boughdraw.texts import read_tree, tree_text
from boughdraw.trees import children_of, levels_of, made_tree, reaches
from boughdraw.turns import Lying, Standing, Turned, both_turns, turn_back, turned_point
from tests.helper import deep_form, grown, leaf, wide_form

FAR = 123456789012345678901234567890
TREE = grown(("root", 1, [("abc", 2, [leaf("d"), leaf("ef", 9)]), ("g", 1, [leaf("hijk"), leaf("l")]), leaf("m")]))
PLACES = [300, 500, 400, -FAR, 9, 9, FAR, 0]
PULLS = ([1, 0, FAR], [FAR, 2, 3], [0, 0, 0, 4, 5, 6, FAR, 8])
PAPER = ([0, 0, 1], [0, 0, 1], [0, 0, 0, 1, 0, 1, 1, 0])
PICTURE = [" r", "+^+", "a b", ": :", "| :", "#", "c"]
FRESH = Easel(TREE, 1)
USED = Easel(TREE, 20)
USED.fold(1)
USED.move(5, 3, 0)
OUTLINES = [[(0, 0), (-700, 800)], [(-256, 256)], [(0, 0), (-90, 90), (-3000, 4000)], [(0, 0)]]

QUESTIONS = [
    (made_tree, [TREE]), (made_tree, [grown(wide_form())]), (made_tree, [[(-1, "a", 1)]]),
    (children_of, [TREE, 0]), (children_of, [TREE, 2]), (children_of, [grown(wide_form()), 0]),
    (levels_of, [TREE]), (levels_of, [grown(deep_form())]), (levels_of, [[(-1, "a", 1)]]),
    (reaches, [TREE]), (reaches, [grown(deep_form())]),
    (bough_of, [TREE, 0]), (bough_of, [TREE, 4]), (bough_of, [TREE, 7]), (bough_of, [[(-1, "a", 1)], 0]),
    (mirrored, [TREE]), (mirrored, [grown(deep_form())]), (mirrored, [[(-1, "a", 1)]]),
    (likeness, [TREE, 1, 4]), (likeness, [TREE, 0, 0]),
    (nearest, [OUTLINES[0], OUTLINES[2], 3]),
    (room_of, [OUTLINES, 1]), (room_of, [OUTLINES[:1], 1]), (room_of, [OUTLINES[:2], 20]),
    (tree_text, [TREE]), (tree_text, [[(-1, "a", 1)]]), (read_tree, ["ab*3(c,de(f,g*2))"]), (read_tree, ["a"]),
    (hung_rows, [TREE]), (hung_rows, [[(-1, "a", 9)]]),
    (read_hung, [["a:", "+-b", "| '-c", "'-d"]]), (read_hung, [["a"]]),
    (drawn, [TREE, 1]), (drawn, [grown(deep_form()), 20]), (drawn, [[(-1, "abc", 1)], 1]),
    (outline_of, [TREE, 0, 1]), (outline_of, [TREE, 4, 20]), (outline_of, [TREE, 7, 1]),
    (tops, [TREE]), (tops, [TREE, 20]), (tops, [[(-1, "abc", 1)]]),
    (broken, [TREE, PLACES, 1]), (broken, [TREE, [0] * 8, 20, 3]), (broken, [[(-1, "abc", 1)], [5], 1]),
    (unlike, [TREE, PLACES]), (unlike, [grown(wide_form()), [node * node for node in range(40)]]),
    (width_of, [TREE, PLACES]), (width_of, [TREE, PLACES, 7]),
    (leans, [TREE, PULLS]), (leans, [TREE, PAPER]), (leans, [[(-1, "a", 1)], ([1], [1], [0])]),
    (is_paper, [TREE, PULLS]), (is_paper, [TREE, PAPER]), (is_paper, [TREE, PAPER, True]),
    (is_paper, [TREE, ([], [-1], [1])]), (worth, [TREE, 1, PULLS]), (worth, [TREE, 20, PAPER]),
    (narrowest, [TREE, 1]), (narrowest, [TREE, 20, True]), (narrowest, [[(-1, "abc", 1)], 1]),
    (boxes, [TREE, 1]), (boxes, [grown(deep_form()), 20, 20]), (boxes, [[(-1, "abc", 1)], 1]),
    (lines, [TREE, 1]), (lines, [grown(deep_form()), 20, 20]), (lines, [[(-1, "abc", 1)], 1]),
    (turned_point, [5, (3, FAR)]), (both_turns, [3, 6]), (turn_back, [3]),
    (Standing().spot, [(3, FAR)]), (Standing().box, [(1, 2, 3, FAR)]), (Lying().spot, [(3, FAR)]),
    (Lying().box, [(1, 2, 3, FAR)]), (Turned(5).spot, [(3, FAR)]), (Turned(5).box, [(1, 2, 3, FAR)]),
    (picture, [TREE, 1]), (picture, [grown(deep_form()), 20]), (picture, [[(-1, "abc", 9)], 1]),
    (read_picture, [PICTURE, 1]), (read_picture, [["ab", " :"], 20]), (read_picture, [["a"], 1]),
    (FRESH.whole, []), (FRESH.folded, []), (FRESH.seen, []), (FRESH.drawing, []), (FRESH.redrawn, []),
    (USED.whole, []), (USED.folded, []), (USED.seen, []), (USED.drawing, []), (USED.redrawn, []),
]

REFUSED = [
    (made_tree, [[(-1, "a", 1), (0, "B", 1)]]), (made_tree, [[]]), (made_tree, [[(-1, "a", 1), (5, "b", 1)]]),
    (children_of, [TREE, -1]), (bough_of, [TREE, 99]), (likeness, [TREE, 0, 99]), (likeness, [TREE, -1, 0]),
    (read_tree, ["a("]), (read_tree, [["a"]]), (read_tree, ["a(" + "b," * 50 + "b)"]), (outline_of, [TREE, 8, 1]),
    (read_hung, [["a", "+-b"]]), (read_hung, [["a", "b"]]), (read_hung, [["a"] + ["+-b"] * 50 + ["'-b"]]),
    (narrowest, [grown(wide_form()), 1]), (narrowest, [grown(deep_form()), 20, True]),
    (read_picture, [PICTURE, 2]), (read_picture, [PICTURE[1:], 1]), (read_picture, [[], 1]),
    (read_picture, [PICTURE[:3] + [""], 1]), (read_picture, [["a"] * 50, 1]),
    (FRESH.put, [8, 0, [(-1, "x", 1)]]), (USED.put, [0, 9, [(-1, "x", 1)]]), (USED.put, [0, 0, grown(wide_form())]),
    (USED.fold, [1]), (USED.unfold, [2]), (USED.cut, [0]), (USED.move, [1, 2, 0]), (FRESH.move, [7, 0, FAR]),
]


def told_by(easel):
    return [easel.whole(), easel.folded(), easel.seen(), easel.drawing(), easel.redrawn()]


def spoil(told):
    """Alter every list that a told thing holds, the inner ones first."""
    if isinstance(told, (list, tuple)):
        for part in told:
            spoil(part)
    if isinstance(told, list):
        told.reverse()
        told.append("spoiled")
        told[0] = ("spoiled",)


def lists_within(told):
    """All lists that a told thing holds, itself too where it is one."""
    found = [told] if isinstance(told, list) else []
    for part in told if isinstance(told, (list, tuple)) else ():
        found.extend(lists_within(part))
    return found


class TestHands(unittest.TestCase):
    def test_what_is_handed_in_stays_as_it_was(self):
        for function, arguments in QUESTIONS:
            with self.subTest(function.__name__):
                handed = copy.deepcopy(arguments)
                function(*handed)
                self.assertEqual(handed, arguments)

    def test_what_is_refused_stays_as_it_was(self):
        for function, arguments in REFUSED:
            with self.subTest(function.__name__):
                handed = copy.deepcopy(arguments)
                with self.assertRaises(DrawError):
                    function(*handed)
                self.assertEqual(handed, arguments)

    def test_what_was_told_may_be_altered(self):
        for function, arguments in QUESTIONS:
            with self.subTest(function.__name__):
                handed = copy.deepcopy(arguments)
                told = function(*handed)
                kept = copy.deepcopy(told)
                spoil(told)
                self.assertEqual(handed, arguments)
                self.assertEqual(function(*handed), kept)

    def test_what_was_told_stays_where_the_handed_is_altered(self):
        for function, arguments in QUESTIONS:
            with self.subTest(function.__name__):
                handed = copy.deepcopy(arguments)
                told = function(*handed)
                kept = copy.deepcopy(told)
                spoil(handed)
                self.assertEqual(told, kept)

    def test_no_two_lists_told_are_one(self):
        for function, arguments in QUESTIONS:
            with self.subTest(function.__name__):
                told = function(*copy.deepcopy(arguments))
                lists = lists_within(told)
                self.assertEqual(len({id(part) for part in lists}), len(lists))

    def test_an_equal_question_has_an_equal_answer(self):
        first = [function(*copy.deepcopy(arguments)) for function, arguments in QUESTIONS]
        for function, arguments in QUESTIONS[::-1]:
            spoil(function(*copy.deepcopy(arguments)))
        self.assertEqual([function(*copy.deepcopy(arguments)) for function, arguments in QUESTIONS], first)

    def test_what_one_function_told_another_takes(self):
        for strict in (False, True):
            places, unit, pulls = narrowest(TREE, 1, strict)
            huge = 10 ** 3990
            places = [huge * place for place in places]
            pulls = tuple([huge * number for number in part] for part in pulls)
            self.assertEqual(broken(TREE, places, 1, huge * unit), [])
            self.assertIs(is_paper(TREE, pulls, strict), True)
            self.assertTrue(any(any(row) for row in leans(TREE, (pulls[0], [0, 0, 0], pulls[2]))))
            width = width_of(TREE, places, huge * unit)
            self.assertEqual(width * sum(pulls[0]), worth(TREE, 1, pulls) * huge * unit)
            self.assertEqual(Turned(1).spot((width, -width)), (width, width))

    def test_what_an_easel_is_handed_stays_as_it_was(self):
        handed = copy.deepcopy([TREE, grown(wide_form())[:4]])
        easel = Easel(handed[0], 1)
        easel.put(7, 0, handed[1])
        easel.put(0, 1, handed[0])
        easel.fold(1)
        easel.cut(2)
        easel.move(1, 3, 0)
        self.assertEqual(handed, [TREE, grown(wide_form())[:4]])
        kept = copy.deepcopy(told_by(easel))
        spoil(handed)
        self.assertEqual(told_by(easel), kept)
        spoil(told_by(easel))
        self.assertEqual(told_by(easel), kept)

    def test_easels_stay_as_they_were_behind_all_questions(self):
        kept = copy.deepcopy([told_by(FRESH), told_by(USED)])
        for function, arguments in QUESTIONS:
            spoil(function(*copy.deepcopy(arguments)))
        for function, arguments in REFUSED:
            with self.assertRaises(DrawError):
                function(*copy.deepcopy(arguments))
        self.assertEqual([told_by(FRESH), told_by(USED)], kept)

    def test_trees_that_were_told_are_taken(self):
        trees = [made_tree(TREE), bough_of(TREE, 1), mirrored(TREE)[0], read_tree(tree_text(TREE)), USED.whole(),
                 read_hung(hung_rows(TREE)), read_picture(picture(TREE, 3), 3), USED.seen()[0]]
        for one in trees:
            for other in trees:
                easel = Easel(one, 1)
                easel.put(0, 0, other)
                seen = easel.seen()[0]
                self.assertEqual(len(seen), len(one) + len(other))
                self.assertEqual(read_picture(picture(seen, 1), 1), read_hung(hung_rows(seen)))
                self.assertEqual(broken(seen, easel.drawing(), 1), [])
                self.assertEqual(bough_of(seen, 1), other)

    def test_long_lists(self):
        long = [1] * 2000
        self.assertIs(is_paper(TREE, (long, long, long)), False)
        self.assertIs(is_paper(TREE, (long, long, long), True), False)
        with self.assertRaises(TooMany):
            narrowest([(-1, "a", 1)] + [(0, "b", 1)] * 1999, 1)


if __name__ == "__main__":
    unittest.main()
