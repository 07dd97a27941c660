import itertools
import unittest

from boughdraw.room import nearest, room_of

FAR = 123456789012345678901234567890
POINT = [(0, 0)]


def told_distance(one, other, gap):
    """The least distance by the words of the document, sought upward from far below."""
    distance = -20000
    while not all(second[0] + distance >= first[1] + 256 * (gap + 1) for first, second in zip(one, other)):
        distance += 1
    return distance


def sample_outlines():
    """Outlines of one to three levels with small numbers, some wide below, some wide above."""
    ends = [(0, 0), (-256, 512), (-1024, 0), (0, 3000), (-2500, 2600)]
    return [list(row) for count in (1, 2, 3) for row in itertools.product(ends[:6 - count], repeat=count)]


class TestNearest(unittest.TestCase):
    def test_two_points(self):
        self.assertEqual(nearest(POINT, POINT, 1), (512, 0))
        self.assertEqual(nearest(POINT, POINT, 20), (256 * 21, 0))

    def test_right_of_the_first_and_left_of_the_second_count(self):
        self.assertEqual(nearest([(-5000, 300)], [(-40, 7000)], 1), (300 + 40 + 512, 0))
        self.assertEqual(nearest([(-40, 7000)], [(-5000, 300)], 2), (7000 + 5000 + 768, 0))

    def test_levels_that_only_one_has_say_nothing(self):
        deep = [(0, 0), (-256, 256), (-9000, 9000)]
        self.assertEqual(nearest(deep, POINT, 1), (512, 0))
        self.assertEqual(nearest(POINT, deep, 1), (512, 0))
        self.assertEqual(nearest(deep, deep[:2], 1), (1024, 1))
        self.assertEqual(nearest(deep[:2], deep, 1), (1024, 1))
        self.assertEqual(nearest(deep, deep, 1), (18512, 2))

    def test_a_distance_below_zero(self):
        self.assertEqual(nearest([(-9000, -8000)], [(3000, 4000)], 1), (-8000 - 3000 + 512, 0))
        self.assertEqual(nearest([(-9, -9), (-9000, -8000)], [(900, 900), (2000, 2000)], 1), (-397, 0))
        self.assertEqual(nearest([(0, 0)], [(512, 512)], 1), (0, 0))

    def test_the_first_of_levels_that_ask_alike(self):
        one = [(0, 0), (-5, 100), (-7, 50), (0, 100)]
        other = [(0, 0), (-50, 9), (-100, 9), (-50, 50)]
        self.assertEqual(nearest(one, other, 1), (662, 1))
        self.assertEqual(nearest([(0, 0)] * 9, [(0, 0)] * 9, 3), (1024, 0))
        self.assertEqual(nearest([(0, 0), (0, 1), (0, 1)], [(0, 0)] * 3, 3), (1025, 1))

    def test_the_last_of_nine_levels(self):
        one = [(0, step) for step in range(9)]
        self.assertEqual(nearest(one, [(0, 0)] * 9, 1), (520, 8))

    def test_numbers_of_thirty_figures(self):
        self.assertEqual(nearest([(0, FAR)], [(-FAR, 0)], 1), (2 * FAR + 512, 0))
        self.assertEqual(nearest([(-FAR, -FAR)], [(FAR, FAR)], 20), (-2 * FAR + 5376, 0))
        self.assertEqual(nearest([(0, FAR), (0, FAR + 1)], [(0, 0), (0, 0)], 1), (FAR + 513, 1))

    def test_many_outlines_by_the_words(self):
        outlines = sample_outlines()
        for gap in (1, 20):
            for one in outlines[::9]:
                for other in outlines[::7]:
                    told = nearest(one, other, gap)
                    self.assertEqual(told[0], told_distance(one, other, gap), (one, other, gap))
                    just = [level for level, pair in enumerate(zip(one, other))
                            if pair[1][0] + told[0] == pair[0][1] + 256 * (gap + 1)]
                    self.assertEqual(told[1], just[0], (one, other, gap))


class TestRoom(unittest.TestCase):
    def hold_room(self, outlines, gap):
        """All that the document asks of a room, without a way of finding it."""
        earliest, latest = room_of(outlines, gap)
        count = len(outlines)
        self.assertEqual((len(earliest), len(latest)), (count, count))
        self.assertEqual((earliest[0], latest[0], latest[-1]), (0, 0, earliest[-1]))
        slack = {}
        for one in range(count):
            for other in range(one + 1, count):
                distance = nearest(outlines[one], outlines[other], gap)[0]
                slack[one, other] = (earliest[other] - earliest[one] - distance, latest[other] - latest[one] - distance)
                self.assertGreaterEqual(min(slack[one, other]), 0, (outlines, gap, one, other))
        # Each but the first is held from ahead in earliest, each but the last from behind in latest.
        for number in range(1, count):
            self.assertEqual(min(slack[ahead, number][0] for ahead in range(number)), 0)
        for number in range(count - 1):
            self.assertEqual(min(slack[number, behind][1] for behind in range(number + 1, count)), 0)

    def test_one_outline(self):
        self.assertEqual(room_of([POINT], 1), ([0], [0]))
        self.assertEqual(room_of([[(-FAR, FAR), (5, 5)]], 20), ([0], [0]))

    def test_two_outlines(self):
        self.assertEqual(room_of([POINT, POINT], 1), ([0, 512], [0, 512]))
        self.assertEqual(room_of([[(-9, 10)], [(-20, 9)]], 2), ([0, 798], [0, 798]))
        self.assertEqual(room_of([[(0, 0)], [(2000, 2000)]], 1), ([0, -1488], [0, -1488]))

    def test_a_row_without_slack(self):
        self.assertEqual(room_of([POINT] * 5, 1), ([0, 512, 1024, 1536, 2048], [0, 512, 1024, 1536, 2048]))

    def test_far_ones_ask_more_than_the_neighbour(self):
        wide = [(0, 0), (-1000, 1000)]
        self.assertEqual(room_of([wide, POINT, wide], 1), ([0, 512, 2512], [0, 2000, 2512]))
        told = room_of([wide, POINT, POINT, POINT, wide], 1)
        self.assertEqual(told, ([0, 512, 1024, 1536, 2512], [0, 976, 1488, 2000, 2512]))
        told = room_of([wide, POINT, wide, POINT, wide], 1)
        self.assertEqual(told, ([0, 512, 2512, 3024, 5024], [0, 2000, 2512, 4512, 5024]))

    def test_latest_hears_far_ones_too(self):
        # The second could go up to its neighbour, but the last one asks for more from it.
        broad = [(0, 0), (0, 0), (-2000, 2000)]
        deep = [(0, 0), (-10, 10), (-2000, 2000)]
        row = [POINT, deep, [(0, 0), (0, 0)], broad]
        self.assertEqual(room_of(row, 1), ([0, 512, 1034, 5024], [0, 512, 4512, 5024]))
        row = [broad, [(0, 0), (0, 300)], POINT, broad]
        self.assertEqual(room_of(row, 1), ([0, 512, 1024, 4512], [0, 3488, 4000, 4512]))

    def test_distances_below_zero(self):
        row = [[(0, 0)], [(5000, 5000)], [(0, 0)]]
        self.assertEqual(room_of(row, 1), ([0, -4488, 1024], [0, -4488, 1024]))
        row = [[(0, 0)], [(5000, -4000 + 9000)], [(6000, 6000)]]
        self.assertEqual(room_of(row, 1), ([0, -4488, -4976], [0, -4488, -4976]))

    def test_numbers_of_thirty_figures(self):
        wide = [(0, 0), (-FAR, FAR)]
        self.assertEqual(room_of([wide, POINT, wide], 1), ([0, 512, 2 * FAR + 512], [0, 2 * FAR, 2 * FAR + 512]))

    def test_rows_of_three(self):
        outlines = sample_outlines()
        for row in itertools.product(outlines[::11], outlines[::8], outlines[::13]):
            self.hold_room(list(row), 1)

    def test_rows_of_many(self):
        outlines = sample_outlines()
        for step in range(1, 30):
            row = [outlines[number * step * 7 % len(outlines)] for number in range(40)]
            self.hold_room(row, step % 20 + 1)

    def test_nine_levels(self):
        row = [[(-step * level, step * level) for level in range(step % 9 + 1)] for step in range(40)]
        self.hold_room(row, 20)

    def test_kinds(self):
        told = room_of([POINT, POINT], 1)
        self.assertIs(type(told), tuple)
        self.assertEqual([type(places) for places in told], [list, list])
        self.assertIs(type(nearest(POINT, POINT, 1)), tuple)


if __name__ == "__main__":
    unittest.main()
