import unittest

from boughdraw.places import drawn
from boughdraw.sheets import boxes, lines
from boughdraw.turns import Lying, Standing, Turned, both_turns, turn_back, turned_point
from tests.helper import clashes, deep_form, formed, grown, leaf, line, strewn, wide_form

FAR = 123456789012345678901234567890
POINTS = [(0, 0), (3, 5), (-3, 5), (3, -5), (-3, -5), (1, 0), (0, 1), (7, 7), (FAR, 1 - FAR), (-FAR, 12), (0, FAR)]
BOXES = [(0, 0, 256, 512), (-7, 3, -2, 9), (1, -9, 4, -8), (-5, -6, 7, 8), (0, 0, 0, 0), (1 - FAR, -3, FAR, 5 * FAR)]
TURNS = range(8)
SHEETS = [grown(line(4)), grown(("r", 2, [leaf("a", 3), ("b", 1, [leaf("cde"), leaf("f", 9)]), leaf("g")])),
          grown(wide_form()), grown(deep_form())] + [grown(formed(strewn(seed, 25))) for seed in range(6)]


def written(turn, x, y):
    return [(x, y), (-y, x), (-x, -y), (y, -x), (-x, y), (-y, -x), (x, -y), (y, x)][turn]


def corners(box):
    return [(box[0], box[1]), (box[0], box[3]), (box[2], box[1]), (box[2], box[3])]


def laid(lay, tree, gap, between):
    """The boxes and lines of a sheet, as the lay takes them."""
    sheet = [lay.box(box) for box in boxes(tree, gap, between)]
    return (sheet, [tuple(lay.spot(point) for point in points) for points in lines(tree, gap, between)])


class TestTurnedPoint(unittest.TestCase):
    def test_each_turn(self):
        for turn in TURNS:
            for point in POINTS:
                told = turned_point(turn, point)
                self.assertEqual(told, written(turn, *point), (turn, point))
                self.assertIs(type(told), tuple)

    def test_a_point_by_hand(self):
        told = [turned_point(turn, (3, 5)) for turn in TURNS]
        self.assertEqual(told, [(3, 5), (-5, 3), (-3, -5), (5, -3), (-3, 5), (-5, -3), (3, -5), (5, 3)])

    def test_the_eight_are_all_unlike(self):
        self.assertEqual(len({turned_point(turn, (3, 5)) for turn in TURNS}), 8)


class TestBothTurns(unittest.TestCase):
    def test_one_and_then_the_other(self):
        for one in TURNS:
            for other in TURNS:
                both = both_turns(one, other)
                self.assertIs(type(both), int)
                self.assertIn(both, TURNS)
                for point in POINTS:
                    wanted = turned_point(other, turned_point(one, point))
                    self.assertEqual(turned_point(both, point), wanted, (one, other, point))

    def test_turns_by_hand(self):
        self.assertEqual(both_turns(1, 4), 7)
        self.assertEqual(both_turns(4, 1), 5)
        self.assertEqual(both_turns(3, 2), 1)
        self.assertEqual(both_turns(5, 6), 1)
        self.assertEqual([both_turns(0, turn) for turn in TURNS], list(TURNS))
        self.assertEqual([both_turns(turn, 0) for turn in TURNS], list(TURNS))

    def test_three_turns(self):
        for one in TURNS:
            for other in TURNS:
                for third in TURNS:
                    told = both_turns(both_turns(one, other), third)
                    self.assertEqual(told, both_turns(one, both_turns(other, third)))


class TestTurnBack(unittest.TestCase):
    def test_ahead_and_behind(self):
        for turn in TURNS:
            back = turn_back(turn)
            self.assertIs(type(back), int)
            self.assertIn(back, TURNS)
            self.assertEqual(both_turns(turn, back), 0)
            self.assertEqual(both_turns(back, turn), 0)
            for point in POINTS:
                self.assertEqual(turned_point(back, turned_point(turn, point)), point)

    def test_by_hand(self):
        self.assertEqual([turn_back(turn) for turn in TURNS], [0, 3, 2, 1, 4, 5, 6, 7])


class TestLays(unittest.TestCase):
    def hold_box(self, lay, box):
        """A box is taken by its corners, and told as a box again."""
        told = lay.box(box)
        self.assertIs(type(told), tuple)
        self.assertTrue(told[0] <= told[2] and told[1] <= told[3], told)
        self.assertEqual(sorted(corners(told)), sorted(lay.spot(corner) for corner in corners(box)))

    def test_standing(self):
        lay = Standing()
        for point in POINTS:
            self.assertEqual(lay.spot(point), point)
        for box in BOXES:
            self.assertEqual(lay.box(box), box)
            self.hold_box(lay, box)

    def test_lying(self):
        lay = Lying()
        for x, y in POINTS:
            self.assertEqual(lay.spot((x, y)), (y, x))
        for box in BOXES:
            self.assertEqual(lay.box(box), (box[1], box[0], box[3], box[2]))
            self.hold_box(lay, box)

    def test_turned(self):
        for turn in TURNS:
            lay = Turned(turn)
            for point in POINTS:
                self.assertEqual(lay.spot(point), written(turn, *point))
            for box in BOXES:
                self.hold_box(lay, box)

    def test_turned_boxes_by_hand(self):
        told = [Turned(turn).box((1, 2, 4, 8)) for turn in TURNS]
        self.assertEqual(told, [(1, 2, 4, 8), (-8, 1, -2, 4), (-4, -8, -1, -2), (2, -4, 8, -1),
                                (-4, 2, -1, 8), (-8, -4, -2, -1), (1, -8, 4, -2), (2, 1, 8, 4)])

    def test_lays_stand_under_one_another_as_told(self):
        self.assertTrue(issubclass(Lying, Standing))
        self.assertTrue(issubclass(Turned, Standing))
        self.assertFalse(issubclass(Lying, Turned))
        self.assertFalse(issubclass(Turned, Lying))

    def test_each_lay_keeps_its_own_turn(self):
        lays = [Turned(turn) for turn in TURNS]
        for lay, turn in list(zip(lays, TURNS))[::-1]:
            self.assertEqual(lay.spot((3, 5)), written(turn, 3, 5))
            self.assertEqual(lay.box((0, 0, 3, 5)), Turned(turn).box((0, 0, 3, 5)))


class TestTurnedSheets(unittest.TestCase):
    def test_nothing_meets_but_where_it_joins(self):
        for tree in SHEETS:
            for lay in [Standing(), Lying()] + [Turned(turn) for turn in TURNS]:
                sheet, ways = laid(lay, tree, 1, 1)
                self.assertEqual(clashes(tree, sheet, ways), [], tree)
        for turn in TURNS:
            sheet, ways = laid(Turned(turn), SHEETS[3], 20, 20)
            self.assertEqual(clashes(SHEETS[3], sheet, ways), [])

    def test_boxes_keep_their_sizes(self):
        for tree in SHEETS:
            told = boxes(tree, 1)
            sizes = [(box[2] - box[0], box[3] - box[1]) for box in told]
            for turn in TURNS:
                turned = [Turned(turn).box(box) for box in told]
                across = [(box[2] - box[0], box[3] - box[1])[::-1 if turn % 2 else 1] for box in turned]
                self.assertEqual(across, sizes)

    def test_turned_and_turned_back(self):
        for tree in SHEETS:
            told = boxes(tree, 1)
            for turn in TURNS:
                back = Turned(turn_back(turn))
                self.assertEqual([back.box(Turned(turn).box(box)) for box in told], told)

    def test_places_are_those_of_the_quick_drawing(self):
        tree = SHEETS[1]
        told = [Turned(4).box(box)[2] for box in boxes(tree, 1)]
        self.assertEqual(told, [256 * (len(row[1]) // 2) - place for row, place in zip(tree, drawn(tree, 1))])


if __name__ == "__main__":
    unittest.main()
