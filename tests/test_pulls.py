import unittest

from boughdraw.boughs import mirrored
from boughdraw.least import narrowest
from boughdraw.places import drawn
from boughdraw.pulls import is_paper, leans, worth
from boughdraw.rules import width_of
from boughdraw.trees import levels_of
from tests.helper import (all_forms, deep_form, formed, grown, leaf, line, listed, shape, strewn, turned, wide_form)

FAR = 123456789012345678901234567890
FORMS = (all_forms(5, ["a", "bc", "defgh"]) + all_forms(6, ["a"]) + [line(9), wide_form(), deep_form()]
         + [formed(strewn(seed, seed)) for seed in range(1, 41)])

# 0 has the children 1 and 4, each of them two leaves: 2 and 3, 5 and 6.
TWINS = grown(("r", 1, [("a", 1, [leaf("b"), leaf("c")]), ("d", 1, [leaf("e"), leaf("f")])]))
TRIPLET = [leaf("a"), leaf("b"), leaf("cde")]
# 0 has the children 1 and 5, each of them three leaves, and the leaf 9 besides, so that it is not like itself mirrored.
LIKE = grown(("r", 1, [("x", 1, TRIPLET), ("y", 1, TRIPLET), leaf("abcdefghi")]))
MIRRORED = grown(("r", 1, [("x", 1, TRIPLET), ("y", 1, TRIPLET[::-1]), leaf("abcdefghi")]))
TRIPLETS_PAPER = ([0, 0, 2], [0, 0, 2], [0, 0, 0, 2, 2, 0, 2, 2, 2, 0])
ONE = [(-1, "a", 1)]


def nodes_by_level(form):
    nodes = listed(form)
    return [[number for number, node in enumerate(nodes) if node[2] == level] for level in range(9)]


def leans_by_words(form, pulls):
    """The leans from the forms of the nodes, each bough summed up by itself."""
    left, right, gaps = pulls
    nodes = listed(form)
    pull = [0] * len(nodes)
    for level, there in enumerate(nodes_by_level(form)):
        for place, number in enumerate(there):
            pull[number] += gaps[number]
            pull[number] += left[level] if place == 0 else 0
            pull[number] -= right[level] if place == len(there) - 1 else gaps[there[place + 1]]
    boughs = [sum(pull[number:number + len(listed(node[0]))]) for number, node in enumerate(nodes)]
    told = []
    for number in range(len(nodes)):
        below = [bough for bough, node in zip(boughs, nodes) if node[1] == number]
        told.append([sum(below) - 2 * sum(below[:place]) for place in range(1, len(below))])
    return told


def is_strict_by_words(form, pulls):
    """Whether the leans added up over like elders are 0, with each elder chosen in turn."""
    nodes = listed(form)
    told = leans_by_words(form, pulls)
    for chosen, row in enumerate(told):
        for place in range(len(row)):
            total = 0
            for node, other in zip(nodes, told):
                if shape(node[0]) == shape(nodes[chosen][0]):
                    total += other[place]
                if shape(node[0]) == shape(turned(nodes[chosen][0])):
                    total += other[len(row) - 1 - place]
            if total != 0:
                return False
    return True


def made_pulls(form, seed):
    """Some pulls as 19 tells, small ones and, by the seed, such of thirty figures."""
    levels = [level for level in nodes_by_level(form) if level]
    factor = FAR if seed % 3 == 0 else 1
    left = [factor * ((seed + level * level) % 4) for level in range(len(levels))]
    right = [factor * ((seed * 3 + level) % 5) for level in range(len(levels))]
    gaps = [factor * ((seed + 7 * number) % 6) for number in range(len(listed(form)))]
    for level in levels:
        gaps[level[0]] = 0
    return (left, right, gaps)


def raised(pulls, part, place, more=1):
    told = tuple(list(numbers) for numbers in pulls)
    told[part][place] += more
    return told


def each_raised(pulls, more=1):
    return [raised(pulls, part, place, more) for part in range(3) for place in range(len(pulls[part]))]


class TestLeans(unittest.TestCase):
    def test_one_node(self):
        self.assertEqual(leans(ONE, ([0], [0], [0])), [[]])
        self.assertEqual(leans(ONE, ([FAR], [7], [0])), [[]])

    def test_a_line_of_nodes(self):
        tree = grown(line(9))
        told = leans(tree, (list(range(9)), [FAR] * 9, [0] * 9))
        self.assertEqual(told, [[]] * 9)

    def test_two_leaves(self):
        tree = grown(("r", 1, [leaf("a"), leaf("b")]))
        self.assertEqual(leans(tree, ([0, 0], [0, 0], [0, 0, 0])), [[0], [], []])
        self.assertEqual(leans(tree, ([0, 1], [0, 0], [0, 0, 0])), [[-1], [], []])
        self.assertEqual(leans(tree, ([0, 0], [0, 1], [0, 0, 0])), [[-1], [], []])
        self.assertEqual(leans(tree, ([0, 0], [0, 0], [0, 0, 1])), [[2], [], []])
        self.assertEqual(leans(tree, ([5, 3], [9, 4], [0, 0, 6])), [[5], [], []])
        self.assertEqual(leans(tree, ([0, FAR], [0, FAR], [0, 0, FAR])), [[0], [], []])
        self.assertEqual(leans(tree, ([0, FAR], [0, 1], [0, 0, 0])), [[-FAR - 1], [], []])

    def test_several_leaves(self):
        tree = grown(("r", 1, [leaf("a"), leaf("b"), leaf("c"), leaf("d")]))
        self.assertEqual(leans(tree, ([0, 1], [0, 0], [0] * 5)), [[-1, -1, -1], [], [], [], []])
        self.assertEqual(leans(tree, ([0, 0], [0, 1], [0] * 5)), [[-1, -1, -1], [], [], [], []])
        self.assertEqual(leans(tree, ([0, 0], [0, 0], [0, 0, 0, 1, 0])), [[0, 2, 0], [], [], [], []])
        # The nodes are pulled by 10 - 2, 2 - 3, 3 - 5, 5 - 7.
        self.assertEqual(leans(tree, ([0, 10], [0, 7], [0, 0, 2, 3, 5])), [[-13, -11, -7], [], [], [], []])

    def test_levels(self):
        # By the pulls the nodes of level 2 are pulled by 1 - 2, 2 - 4, 4 - 8, 8 - 16.
        told = leans(TWINS, ([0, 0, 1], [0, 0, 16], [0, 0, 0, 2, 0, 4, 8]))
        self.assertEqual(told, [[-9], [-1], [], [], [-4], [], []])
        # The pulls of level 1 are felt by the root alone.
        told = leans(TWINS, ([0, 5, 0], [0, 6, 0], [0, 0, 0, 0, 7, 0, 0]))
        self.assertEqual(told, [[3], [0], [], [], [0], [], []])
        tree = grown(("r", 1, [line(2), ("a", 1, [("b", 1, [leaf("c"), leaf("d")])]), leaf("e")]))
        # Node 1 over 2; 3 over 4 over 5 and 6; 7.
        told = leans(tree, ([0, 0, 0, 9], [0, 0, 0, 2], [0, 0, 0, 0, 0, 0, 4, 0]))
        self.assertEqual(told, [[7, -7], [], [], [], [-3], [], [], []])
        told = leans(tree, ([0, 0, 0, 0], [0, 0, 0, 0], [0, 0, 0, 0, 3, 0, 0, 0]))
        self.assertEqual(told, [[6, 0], [], [], [], [0], [], [], []])

    def test_pulls_at_the_root_are_felt_by_nobody(self):
        for form in FORMS:
            tree = grown(form)
            zeros = [0] * len(levels_of(tree))
            pulls = ([FAR] + zeros[1:], [3] + zeros[1:], [0] * len(tree))
            self.assertEqual([any(row) for row in leans(tree, pulls)], [False] * len(tree))

    def test_a_list_for_each_node(self):
        for form in FORMS:
            tree = grown(form)
            told = leans(tree, made_pulls(form, 1))
            self.assertEqual(type(told), list)
            self.assertEqual([type(row) for row in told], [list] * len(tree))
            self.assertEqual([len(row) for row in told], [max(0, len(node[0][2]) - 1) for node in listed(form)])

    def test_by_the_words(self):
        for form in FORMS:
            for seed in range(7):
                pulls = made_pulls(form, seed)
                self.assertEqual(leans(grown(form), pulls), leans_by_words(form, pulls), (form, pulls))

    def test_asked_again(self):
        pulls = ([0, 0, 1], [0, 0, 16], [0, 0, 0, 2, 0, 4, 8])
        first = leans(TWINS, pulls)
        kept = [list(row) for row in first]
        leans(TWINS, ([1, 2, 3], [4, 5, 6], [0, 0, 0, 7, 8, 9, FAR]))
        for row in first:
            row.append(5)
        first.append([7])
        self.assertEqual(leans(TWINS, pulls), kept)


class TestIsPaper(unittest.TestCase):
    paper = ([0, 0, 1], [0, 0, 1], [0, 0, 0, 1, 0, 1, 1])

    def hold_none(self, tree, pulls):
        for told in (is_paper(tree, pulls), is_paper(tree, pulls, False), is_paper(tree, pulls, True),
                     is_paper(tree, pulls, strict=False), is_paper(tree, pulls, strict=True)):
            self.assertIs(told, False, (tree, pulls))

    def hold_both(self, tree, pulls):
        for told in (is_paper(tree, pulls), is_paper(tree, pulls, False), is_paper(tree, pulls, True),
                     is_paper(tree, pulls, strict=False), is_paper(tree, pulls, strict=True)):
            self.assertIs(told, True, (tree, pulls))

    def hold_strict_alone(self, tree, pulls):
        self.assertIs(is_paper(tree, pulls), False)
        self.assertIs(is_paper(tree, pulls, False), False)
        self.assertIs(is_paper(tree, pulls, strict=False), False)
        self.assertIs(is_paper(tree, pulls, True), True)
        self.assertIs(is_paper(tree, pulls, strict=True), True)

    def test_papers(self):
        self.hold_both(ONE, ([1], [1], [0]))
        self.hold_both(ONE, ([FAR], [FAR], [0]))
        self.hold_both(TWINS, self.paper)
        self.hold_both(TWINS, ([1, 0, 0], [1, 0, 0], [0] * 7))
        self.hold_both(TWINS, ([0, 1, 0], [0, 1, 0], [0, 0, 0, 0, 1, 0, 0]))
        self.hold_both(TWINS, ([2, 3, 4], [2, 3, 4], [0, 0, 0, 4, 3, 4, 4]))
        # One side pulled on one level and the other on another one.
        self.hold_both(TWINS, ([0, 2, 0], [0, 0, 2], [0, 0, 0, 1, 0, 2, 2]))
        self.hold_both(TWINS, ([0, 2, 0], [0, 0, 2], [0, 0, 0, 0, 2, 0, 1]))
        self.hold_both(TWINS, tuple([FAR * number for number in part] for part in self.paper))
        self.hold_both(grown(line(9)), ([1] * 9, [0] * 8 + [9], [0] * 9))

    def test_one_number_raised(self):
        for more in (1, FAR):
            for pulls in each_raised(self.paper, more):
                self.hold_none(TWINS, pulls)

    def test_sides_that_come_to_unlike_sums(self):
        self.hold_none(ONE, ([2], [1], [0]))
        self.hold_none(ONE, ([1], [2], [0]))
        self.hold_none(grown(line(3)), ([1, 1, 1], [1, 0, 1], [0, 0, 0]))
        # With 2 and 4 all leans are 0.
        pulls = ([0, 2, 0], [0, 4, 0], [0, 0, 0, 0, 3, 0, 0])
        self.assertFalse(any(any(row) for row in leans(TWINS, pulls)))
        self.hold_none(TWINS, pulls)

    def test_one_gap_raised_and_another_lowered(self):
        tree = grown(("r", 1, [leaf("a"), leaf("b"), leaf("cde")]))
        self.hold_both(tree, ([0, 1], [0, 1], [0, 0, 1, 1]))
        self.hold_none(tree, ([0, 1], [0, 1], [0, 0, 0, 2]))
        self.hold_none(tree, ([0, 1], [0, 1], [0, 0, 2, 0]))
        self.hold_none(TWINS, ([0, 0, 1], [0, 0, 1], [0, 0, 0, 2, 0, 0, 1]))
        self.hold_none(TWINS, ([0, 0, 1], [0, 0, 1], [0, 0, 0, 1, 0, 2, 0]))

    def test_all_nought(self):
        self.hold_none(ONE, ([0], [0], [0]))
        for form in FORMS:
            tree = grown(form)
            zeros = [0] * len(levels_of(tree))
            self.hold_none(tree, (zeros, list(zeros), [0] * len(tree)))

    def test_other_lengths(self):
        three = grown(line(3))
        for tree, paper in ((TWINS, self.paper), (ONE, ([1], [1], [0])), (three, ([1, 0, 0], [1, 0, 0], [0, 0, 0]))):
            for part in range(3):
                for numbers in (paper[part] + [0], paper[part] + [1], paper[part][:-1], paper[part][1:], []):
                    self.hold_none(tree, paper[:part] + (numbers,) + paper[part + 1:])
            self.hold_none(tree, ([0] + paper[0], [0] + paper[1], paper[2]))
            self.hold_none(tree, (paper[0] + [0], paper[1] + [0], paper[2]))
            self.hold_none(tree, ([], [], []))
            self.hold_none(tree, (paper[2], paper[2], paper[0] + [0]))

    def test_numbers_below_nought(self):
        # All leans are 0 and the sums agree: it is the number below 0 alone.
        self.hold_none(ONE, ([-1], [-1], [0]))
        tree = grown(line(2))
        self.hold_both(tree, ([1, 1], [0, 2], [0, 0]))
        self.hold_none(tree, ([3, -1], [0, 2], [0, 0]))
        self.hold_none(tree, ([1, 1], [-1, 3], [0, 0]))
        tree = grown(("r", 1, [leaf("a"), leaf("b")]))
        pulls = ([3, -1], [3, -1], [0, 0, -1])
        self.assertEqual(leans(tree, pulls), [[0], [], []])
        self.hold_none(tree, pulls)
        pulls = ([0, 1, 1], [0, 1, 1], [0, 0, 0, 2, -1, 3, 2])
        self.assertFalse(any(any(row) for row in leans(TWINS, pulls)))
        self.hold_none(TWINS, pulls)

    def test_a_number_at_the_first_node_of_a_level(self):
        for node in (0, 1, 2):
            self.hold_none(TWINS, raised(self.paper, 2, node))
            self.hold_none(TWINS, raised(self.paper, 2, node, -1))
            self.hold_none(TWINS, raised(self.paper, 2, node, FAR))
        # Here nobody would feel it.
        self.hold_none(ONE, ([1], [1], [1]))
        self.hold_none(grown(line(3)), ([1, 0, 0], [1, 0, 0], [0, 0, 5]))

    def test_strict_over_like_boughs_that_are_mirrored_too(self):
        self.hold_strict_alone(TWINS, ([0, 0, 1], [0, 0, 1], [0, 0, 0, 2, 0, 1, 0]))
        self.hold_strict_alone(TWINS, ([0, 0, 1], [0, 0, 1], [0, 0, 0, 0, 0, 1, 2]))
        self.hold_none(TWINS, ([0, 0, 1], [0, 0, 1], [0, 0, 0, 2, 0, 1, 1]))
        unlike_twins = [(elder, "xyz" if node == 4 else label, tall) for node, (elder, label, tall) in enumerate(TWINS)]
        self.hold_none(unlike_twins, ([0, 0, 1], [0, 0, 1], [0, 0, 0, 2, 0, 1, 0]))

    def test_strict_over_like_boughs(self):
        self.hold_both(LIKE, TRIPLETS_PAPER)
        self.hold_strict_alone(LIKE, raised(raised(TRIPLETS_PAPER, 2, 3), 2, 7, -1))
        self.hold_strict_alone(LIKE, raised(raised(TRIPLETS_PAPER, 2, 4, -2), 2, 8, 2))
        self.hold_none(LIKE, raised(raised(TRIPLETS_PAPER, 2, 3), 2, 8, -1))
        self.hold_none(LIKE, raised(raised(TRIPLETS_PAPER, 2, 4), 2, 7, -1))
        self.hold_none(LIKE, raised(raised(TRIPLETS_PAPER, 2, 3), 2, 4, -1))
        self.hold_none(LIKE, raised(TRIPLETS_PAPER, 2, 3))

    def test_strict_over_mirrored_boughs(self):
        self.hold_both(MIRRORED, TRIPLETS_PAPER)
        self.hold_strict_alone(MIRRORED, raised(raised(TRIPLETS_PAPER, 2, 3), 2, 8, -1))
        self.hold_strict_alone(MIRRORED, raised(raised(TRIPLETS_PAPER, 2, 4, -2), 2, 7, 2))
        self.hold_none(MIRRORED, raised(raised(TRIPLETS_PAPER, 2, 3), 2, 7, -1))
        self.hold_none(MIRRORED, raised(raised(TRIPLETS_PAPER, 2, 4), 2, 8, -1))
        self.hold_none(MIRRORED, raised(raised(TRIPLETS_PAPER, 2, 3), 2, 4, -1))
        self.hold_none(MIRRORED, raised(TRIPLETS_PAPER, 2, 8))

    def test_strict_over_like_and_mirrored_boughs_together(self):
        children = [("x", 1, TRIPLET), ("y", 1, TRIPLET[::-1]), ("z", 1, TRIPLET)]
        tree = grown(("r", 1, children + [leaf("abcdefghi")]))
        paper = ([0, 0, 2], [0, 0, 2], [0, 0, 0, 2, 2, 0, 2, 2, 2, 0, 2, 2, 2, 0])
        self.hold_both(tree, paper)
        # The first gaps of x and z go with the second one of y.
        self.hold_strict_alone(tree, raised(raised(raised(paper, 2, 3, 2), 2, 8, -1), 2, 11, -1))
        self.hold_strict_alone(tree, raised(raised(raised(paper, 2, 4, -1), 2, 7, 2), 2, 12, -1))
        self.hold_none(tree, raised(raised(raised(paper, 2, 3, 2), 2, 7, -1), 2, 11, -1))

    def test_a_node_that_is_like_and_mirrored_to_itself(self):
        tree = grown(("r", 1, [leaf("a"), leaf("b"), leaf("c")]))
        self.hold_both(tree, ([0, 1], [0, 1], [0, 0, 1, 1]))
        self.hold_strict_alone(tree, ([0, 1], [0, 1], [0, 0, 2, 0]))
        self.hold_strict_alone(tree, ([0, 1], [0, 1], [0, 0, 0, 2]))
        self.hold_none(tree, ([0, 1], [0, 1], [0, 0, 1, 0]))
        self.hold_none(tree, ([0, 1], [0, 1], [0, 0, 2, 1]))
        self.hold_none(tree, ([0, 1], [0, 1], [0, 0, 3, 0]))
        tree = grown(("r", 1, [leaf("ab"), leaf("c"), leaf("d"), leaf("ef")]))
        self.hold_strict_alone(tree, ([0, 2], [0, 2], [0, 0, 1, 2, 3]))
        # The middle gap has no other one to be added up with.
        self.hold_none(tree, ([0, 2], [0, 2], [0, 0, 2, 3, 1]))
        self.hold_none(tree, ([0, 2], [0, 2], [0, 0, 2, 1, 3]))

    def test_by_the_words(self):
        for form in FORMS:
            tree = grown(form)
            for seed in range(6):
                pulls = made_pulls(form, seed)
                agree = sum(pulls[0]) == sum(pulls[1]) > 0
                free = not any(any(row) for row in leans_by_words(form, pulls))
                self.assertIs(is_paper(tree, pulls), agree and free, (tree, pulls))
                self.assertIs(is_paper(tree, pulls, True), agree and is_strict_by_words(form, pulls), (tree, pulls))

    def test_papers_told_and_changed_by_the_words(self):
        pair = ("a", 1, [leaf("b"), leaf("c"), leaf("d")])
        forms = [("r", 1, [pair, pair]), ("r", 1, [pair, leaf("x"), pair]), ("r", 1, [pair, line(3), line(2)])]
        for form in forms + [formed(strewn(seed, 12)) for seed in range(20)]:
            tree = grown(form)
            for strict in (False, True):
                paper = narrowest(tree, 1, strict)[2]
                self.assertIs(is_paper(tree, paper, strict), True)
                self.assertIs(is_strict_by_words(form, paper), True)
                self.assertIs(is_paper(tree, paper), not any(any(row) for row in leans_by_words(form, paper)))
                for level in levels_of(tree):
                    for one, other in zip(level[1:], level[2:]):
                        pulls = raised(raised(paper, 2, one), 2, other, -1)
                        wanted = is_strict_by_words(form, pulls) and pulls[2][other] >= 0
                        self.assertIs(is_paper(tree, pulls, True), wanted, (tree, pulls))

    def test_mirrored_papers(self):
        tree, numbers = mirrored(LIKE)
        for pulls in (TRIPLETS_PAPER, raised(raised(TRIPLETS_PAPER, 2, 3), 2, 7, -1), raised(TRIPLETS_PAPER, 2, 3)):
            left, right, gaps = pulls
            # A gap belongs to its right-hand node, which is another one in the mirror.
            behind = {one: other for level in levels_of(LIKE) for one, other in zip(level, level[1:])}
            turned_gaps = [gaps[behind[number]] if number in behind else 0 for number in numbers]
            for strict in (False, True):
                told = is_paper(tree, (list(right), list(left), turned_gaps), strict)
                self.assertIs(told, is_paper(LIKE, pulls, strict))


class TestWorth(unittest.TestCase):
    # Level by level: 0; 1 and 4; 2, 3 and 5.
    tree = grown(("abcd", 1, [("efghi", 1, [leaf("a"), leaf("bcd")]), ("ef", 1, [leaf("abcdefghi")])]))
    zeros = ([0, 0, 0], [0, 0, 0], [0, 0, 0, 0, 0, 0])

    def test_all_nought(self):
        self.assertEqual(worth(self.tree, 1, self.zeros), 0)
        self.assertEqual(worth(self.tree, 20, self.zeros), 0)
        self.assertEqual(worth(ONE, 1, ([0], [0], [0])), 0)

    def test_one_left_number(self):
        for gap in (1, 20):
            for level, reach in enumerate((2, 2, 0)):
                # The bottom is added, the left number itself.
                self.assertEqual(worth(self.tree, gap, raised(self.zeros, 0, level)), reach + 1)
                self.assertEqual(worth(self.tree, gap, raised(self.zeros, 0, level, FAR)), (reach + 1) * FAR)

    def test_one_right_number(self):
        for gap in (1, 20):
            for level, reach in enumerate((2, 1, 4)):
                self.assertEqual(worth(self.tree, gap, raised(self.zeros, 1, level)), reach)
                self.assertEqual(worth(self.tree, gap, raised(self.zeros, 1, level, FAR)), reach * FAR)

    def test_one_gaps_number(self):
        for gap in (1, 20):
            for node, both in ((4, 3), (3, 1), (5, 5)):
                self.assertEqual(worth(self.tree, gap, raised(self.zeros, 2, node)), both + gap + 1)
                self.assertEqual(worth(self.tree, gap, raised(self.zeros, 2, node, FAR)), (both + gap + 1) * FAR)

    def test_several_together(self):
        pulls = ([1, 10, 100], [2, 20, 200], [0, 0, 0, 3, 30, 300])
        sides = 1 * 2 + 10 * 2 + 100 * 0 + 2 * 2 + 20 * 1 + 200 * 4
        self.assertEqual(worth(self.tree, 1, pulls), 111 + sides + 3 * 3 + 30 * 5 + 300 * 7)
        self.assertEqual(worth(self.tree, 20, pulls), 111 + sides + 3 * 22 + 30 * 24 + 300 * 26)
        self.assertEqual(worth(ONE, 7, ([5], [9], [0])), 5)
        self.assertEqual(worth([(-1, "abc", 1)], 7, ([5], [9], [0])), 19)

    def test_a_worth_is_the_sum_of_its_parts(self):
        for form in FORMS:
            tree = grown(form)
            pulls = made_pulls(form, 1)
            zeros = tuple([0] * len(part) for part in pulls)
            for gap in (1, 20):
                total = 0
                for part in range(3):
                    for place, number in enumerate(pulls[part]):
                        total += number * worth(tree, gap, raised(zeros, part, place))
                self.assertEqual(worth(tree, gap, pulls), total)

    def test_no_drawing_is_narrower_than_a_paper_tells(self):
        for seed in range(30):
            tree = strewn(seed, 12)
            for strict in (False, True):
                pulls = narrowest(tree, 3, strict)[2]
                for gap in (1, 3, 20):
                    width = width_of(tree, drawn(tree, gap))
                    self.assertGreaterEqual(width * sum(pulls[0]), worth(tree, gap, pulls) * 256)


if __name__ == "__main__":
    unittest.main()
