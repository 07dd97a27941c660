import unittest

from boughdraw.places import drawn
from boughdraw.sheets import boxes, lines
from tests.helper import (all_forms, clashes, deep_form, fine_form, formed, grown, line, listed, strewn,
                          wide_form)

FORMS = (all_forms(5, ["a", "bc", "defgh"]) + [line(9), wide_form(), deep_form(), fine_form()]
         + [formed(strewn(seed, seed)) for seed in range(1, 41)])
# Node 0 over 1 and 4; 1 over 2 and 3. By the quick drawing with gap 1 the places are 896, 384, 0, 768 and 1408.
TREE = [(-1, "root", 2), (0, "ab", 2), (1, "c", 1), (1, "def", 3), (0, "gh", 5)]


def rows_above(form, between):
    """For each level the rows above it, and the greatest tall on it."""
    nodes = listed(form)
    found = []
    above = 0
    for level in range(max(node[2] for node in nodes) + 1):
        tallest = max(node[0][1] for node in nodes if node[2] == level)
        found.append((above, tallest))
        above += tallest + between
    return found


def boxes_by_words(form, gap, between):
    above = rows_above(form, between)
    told = []
    for place, (part, elder, level) in zip(drawn(grown(form), gap), listed(form)):
        reach = 256 * (len(part[0]) // 2)
        top = above[level][0]
        told.append((place - reach, 256 * top, place + reach + 256, 256 * (top + part[1])))
    return told


def lines_by_words(form, gap, between):
    above = rows_above(form, between)
    nodes = listed(form)
    places = drawn(grown(form), gap)
    told = []
    for place, (part, elder, level) in list(zip(places, nodes))[1:]:
        elder_top, tallest = above[level - 1]
        middle = places[elder] + 128
        told.append(((middle, 256 * (elder_top + nodes[elder][0][1])), (middle, 256 * (elder_top + tallest)),
                     (place + 128, 256 * above[level][0])))
    return told


class TestBoxes(unittest.TestCase):
    def test_one_node(self):
        self.assertEqual(boxes([(-1, "a", 1)], 1), [(0, 0, 256, 256)])
        self.assertEqual(boxes([(-1, "a", 1)], 20, 20), [(0, 0, 256, 256)])
        self.assertEqual(boxes([(-1, "abcd", 9)], 1), [(0, 0, 1280, 2304)])

    def test_a_line_of_nodes(self):
        self.assertEqual(boxes(grown(line(3)), 1), [(0, 0, 256, 256), (0, 512, 256, 768), (0, 1024, 256, 1280)])
        tree = [(-1, "a", 3), (0, "bcd", 1), (1, "e", 2)]
        self.assertEqual(boxes(tree, 1), [(256, 0, 512, 768), (0, 1024, 768, 1280), (256, 1536, 512, 2048)])
        told = boxes(tree, 20, 20)
        self.assertEqual(told, [(256, 0, 512, 768), (0, 5888, 768, 6144), (256, 11264, 512, 11776)])

    def test_levels_with_unlike_tall(self):
        wanted = [(384, 0, 1664, 512), (128, 768, 896, 1280), (0, 2304, 256, 2560), (512, 2304, 1280, 3072),
                  (1152, 768, 1920, 2048)]
        self.assertEqual(boxes(TREE, 1), wanted)
        self.assertEqual(boxes(TREE, 1, 1), wanted)
        self.assertEqual(boxes(TREE, 1, between=1), wanted)
        self.assertEqual([box[1] for box in boxes(TREE, 1, 20)], [0, 22 * 256, 47 * 256, 47 * 256, 22 * 256])
        self.assertEqual([box[3] for box in boxes(TREE, 1, 20)], [512, 24 * 256, 48 * 256, 50 * 256, 27 * 256])
        self.assertEqual([box[0] for box in boxes(TREE, 1, 20)], [box[0] for box in wanted])

    def test_gaps(self):
        tree = [(-1, "r", 1), (0, "abc", 1), (0, "d", 1)]
        self.assertEqual([(box[0], box[2]) for box in boxes(tree, 1)], [(640, 896), (0, 768), (1024, 1280)])
        self.assertEqual([(box[0], box[2]) for box in boxes(tree, 20)], [(3072, 3328), (0, 768), (5888, 6144)])

    def test_kinds(self):
        told = boxes(TREE, 1)
        self.assertEqual((type(told), [type(box) for box in told]), (list, [tuple] * 5))

    def test_by_the_words(self):
        for form in FORMS:
            tree = grown(form)
            self.assertEqual(boxes(tree, 2), boxes_by_words(form, 2, 1), tree)
            for gap in (1, 20):
                for between in (1, 20):
                    told = boxes(tree, gap, between)
                    self.assertEqual(told, boxes_by_words(form, gap, between), (tree, gap, between))


class TestLines(unittest.TestCase):
    def test_one_node_has_no_line(self):
        self.assertEqual(lines([(-1, "a", 1)], 1), [])
        self.assertEqual(lines([(-1, "abcd", 9)], 20, 20), [])

    def test_a_line_of_nodes(self):
        told = lines(grown(line(3)), 1)
        self.assertEqual(told, [((128, 256), (128, 256), (128, 512)), ((128, 768), (128, 768), (128, 1024))])
        told = lines([(-1, "a", 3), (0, "bcd", 1), (1, "e", 2)], 20, 20)
        self.assertEqual(told, [((384, 768), (384, 768), (384, 5888)), ((384, 6144), (384, 6144), (384, 11264))])

    def test_levels_with_unlike_tall(self):
        wanted = [((1024, 512), (1024, 512), (512, 768)), ((512, 1280), (512, 2048), (128, 2304)),
                  ((512, 1280), (512, 2048), (896, 2304)), ((1024, 512), (1024, 512), (1536, 768))]
        self.assertEqual(lines(TREE, 1), wanted)
        self.assertEqual(lines(TREE, 1, 1), wanted)
        self.assertEqual(lines(TREE, 1, between=1), wanted)
        told = lines(TREE, 1, 20)
        self.assertEqual(told[1], ((512, 24 * 256), (512, 27 * 256), (128, 47 * 256)))
        self.assertEqual(told[3], ((1024, 512), (1024, 512), (1536, 22 * 256)))

    def test_kinds(self):
        told = lines(TREE, 1)
        self.assertEqual((type(told), [type(points) for points in told]), (list, [tuple] * 4))
        self.assertEqual({(type(point), len(point)) for points in told for point in points}, {(tuple, 2)})

    def test_by_the_words(self):
        for form in FORMS:
            tree = grown(form)
            self.assertEqual(lines(tree, 2), lines_by_words(form, 2, 1), tree)
            for gap in (1, 20):
                for between in (1, 20):
                    told = lines(tree, gap, between)
                    self.assertEqual(told, lines_by_words(form, gap, between), (tree, gap, between))


class TestSheets(unittest.TestCase):
    def test_nothing_meets_but_where_it_joins(self):
        for form in FORMS:
            tree = grown(form)
            self.assertEqual(clashes(tree, boxes(tree, 1), lines(tree, 1)), [], tree)
        for form in [wide_form(), deep_form(), fine_form()] + FORMS[-5:]:
            tree = grown(form)
            for gap, between in ((1, 20), (20, 1), (20, 20)):
                self.assertEqual(clashes(tree, boxes(tree, gap, between), lines(tree, gap, between)), [], tree)

    def test_what_would_meet_is_seen(self):
        # The look-out of the test above, held against sheets that are not as told.
        tree = [(-1, "r", 1), (0, "a", 3), (1, "b", 1), (0, "c", 1), (3, "d", 1)]
        sheet, ways = boxes(tree, 1), lines(tree, 1)
        self.assertEqual(clashes(tree, sheet, ways), [])
        moved = sheet[:3] + [(256,) + sheet[3][1:]] + sheet[4:]
        self.assertEqual(clashes(tree, moved, ways), [("boxes", 1, 3)])
        # The line from c to d goes straight on from c's bottom, beside the taller a.
        crossed = ways[:3] + [(ways[3][0], (-500, 1200), ways[3][2])]
        self.assertEqual(clashes(tree, sheet, crossed), [("line and box", 4, 1), ("lines", 2, 4)])
        through = ways[:3] + [((640, 600), (640, 1280), ways[3][2])]
        self.assertEqual(clashes(tree, sheet, through), [("line and box", 4, 3)])
        same = ways[:2] + [ways[0]] + ways[3:]
        self.assertIn(("lines", 1, 3), clashes(tree, sheet, same))

    def test_lines_begin_and_end_at_their_boxes(self):
        for form in FORMS:
            tree = grown(form)
            sheet = boxes(tree, 3, 2)
            for node, points in enumerate(lines(tree, 3, 2), start=1):
                elder = sheet[tree[node][0]]
                self.assertEqual(points[0], ((elder[0] + elder[2]) // 2, elder[3]))
                self.assertEqual(points[1][0], points[0][0])
                self.assertEqual(points[2], ((sheet[node][0] + sheet[node][2]) // 2, sheet[node][1]))


if __name__ == "__main__":
    unittest.main()
