"""Trees for the tests, grown from nested forms, apart from the program's own ways.

A form is a tuple (label, tall, children), children being a list of forms. Below them: what meets on a sheet; and twigs,
nodes that know their own children, for what an easel does.
"""

from fractions import Fraction
from itertools import combinations

from boughdraw.errors import NoDeed, NoNode, NoPlace, NoTree


def leaf(label="a", tall=1):
    return (label, tall, [])


def line(count):
    """A form of so many nodes, each with one child but the last."""
    form = leaf()
    for step in range(count - 1):
        form = ("a", 1, [form])
    return form


def listed(form):
    """The forms of all nodes in the tree's order, each with its elder's number and level."""
    found = []

    def walk(part, elder, level):
        number = len(found)
        found.append((part, elder, level))
        for child in part[2]:
            walk(child, number, level + 1)

    walk(form, -1, 0)
    return found


def grown(form):
    """The rows of a form: a tree, where the form keeps to the bounds."""
    return [(elder, part[0], part[1]) for part, elder, level in listed(form)]


def turned(form):
    """The form with the children of each node in the other order."""
    return (form[0], form[1], [turned(child) for child in form[2][::-1]])


def shape(form):
    """What likeness looks at: reach and children, nested."""
    return (len(form[0]) // 2, [shape(child) for child in form[2]])


def woods(count):
    """All rows of bare nested lists that have so many nodes together."""
    if count == 0:
        return [[]]
    found = []
    for first in range(1, count + 1):
        for inner in woods(first - 1):
            for rest in woods(count - first):
                found.append([inner] + rest)
    return found


def dressed(bare, labels):
    """A form of a bare nested list, with labels and tall given round about in its order."""
    counted = [0]

    def dress(part):
        number = counted[0]
        counted[0] += 1
        label = labels[number % len(labels)]
        return (label, number % 9 + 1, [dress(child) for child in part])

    return dress(bare)


def all_forms(most, labels):
    """Each form of up to so many nodes, dressed with the labels."""
    return [dressed(bare, labels) for count in range(1, most + 1) for bare in woods(count - 1)]


def wide_form():
    """A form of 40 nodes: 13 boughs of three nodes under a root."""
    return ("root", 2, [("abc", 1, [leaf("d", 9), leaf("efghi", 3)]) for step in range(13)])


def deep_form():
    """A form of 40 nodes that reaches level 8, with leaves at both sides on the way."""
    form = leaf("abcdefghi", 9)
    for step in range(8):
        ahead = [leaf("x" * (step + 1), 9 - step)]
        behind = [leaf("de"[number % 2:] + "f" * step, number + 1) for number in range(2 if step == 0 else 3)]
        form = ("go", step + 1, ahead + [form] + behind)
    return form


def fine_form():
    """A form of 24 nodes, up to level 8, each level of which halves the shreds once more, down to single ones."""
    form = ("a", 1, [leaf("b"), leaf("cd")])
    for step in range(7):
        form = ("a", 1, [form, line(2)])
    return form


def rolled(seed):
    """A plain row of numbers without end that looks strewn, the same for each seed."""
    number = seed
    while True:
        number = (number * 1103515245 + 12345) % 2 ** 31
        yield number


def strewn(seed, count):
    """Rows of a tree of so many nodes, strewn by the row of numbers that begins with the seed."""
    rows = []
    way = []
    for node, number in zip(range(count), rolled(seed)):
        way = way[:min(number // 65536 % (len(way) + 1) + 1, 8)]
        label = "abcdefghi"[:number // 4096 % 9 + 1] if number // 256 % 2 == 0 else "a"
        rows.append((way[-1] if way else -1, label, number // 1024 % 9 + 1))
        way.append(node)
    return rows


def formed(rows):
    """The form that the rows were grown from."""
    forms = [(row[1], row[2], []) for row in rows]
    for node in range(1, len(rows)):
        forms[rows[node][0]][2].append(forms[node])
    return forms[0]


def boxes_meet(one, other):
    """Whether two boxes have a point together, their sides counted in."""
    return one[0] <= other[2] and other[0] <= one[2] and one[1] <= other[3] and other[1] <= one[3]


def box_round(points):
    across = [point[0] for point in points]
    down = [point[1] for point in points]
    return (min(across), min(down), max(across), max(down))


def part_within(box, start, end):
    """From where to where, as parts of the way from the start to the end, one is in the box; None where nowhere."""
    if not boxes_meet(box, box_round([start, end])):
        return None
    first, last = Fraction(0), Fraction(1)
    for axis in (0, 1):
        way = end[axis] - start[axis]
        if way != 0:
            near, far = sorted([Fraction(box[axis] - start[axis], way), Fraction(box[axis + 2] - start[axis], way)])
            first, last = max(first, near), min(last, far)
    return (first, last) if first <= last else None


def side_of(start, end, point):
    """Above, below or just 0, as the point lies at the one or other hand of the way from the start to the end."""
    return (end[0] - start[0]) * (point[1] - start[1]) - (end[1] - start[1]) * (point[0] - start[0])


def ways_meet(one, other):
    """Whether two straight ways, tuples of two points, have a point together, their ends counted in."""
    if not boxes_meet(box_round(one), box_round(other)):
        return False
    return (side_of(*one, other[0]) * side_of(*one, other[1]) <= 0
            and side_of(*other, one[0]) * side_of(*other, one[1]) <= 0)


def ways_of(points):
    """The straight ways of a line, without such as have no length."""
    return [way for way in zip(points, points[1:]) if way[0] != way[1]]


def line_clashes(tree, boxes, node, points):
    """The boxes that a node's line meets, but where it joins its elder's and its own."""
    found = []
    for number, box in enumerate(boxes):
        met = [part_within(box, *way) for way in ways_of(points)]
        if number == tree[node][0]:
            free = met[0] == (0, 0) and not any(met[1:])
        elif number == node:
            free = met[-1] == (1, 1) and not any(met[:-1])
        else:
            free = not any(met)
        if not free:
            found.append(("line and box", node, number))
    return found


def lines_clash(tree, lines, one, other):
    """Whether two nodes' lines meet; such as have one elder may, from it to where they part."""
    first, second = lines[one - 1], lines[other - 1]
    if tree[one][0] == tree[other][0]:
        return first[:2] != second[:2] or side_of(*first[1:], second[2]) == 0
    return any(ways_meet(way, further) for way in ways_of(first) for further in ways_of(second))


def clashes(tree, boxes, lines):
    """All that meets on a sheet, or on a turned one, and may not."""
    pairs = combinations(range(len(tree)), 2)
    found = [("boxes", one, other) for one, other in pairs if boxes_meet(boxes[one], boxes[other])]
    for node in range(1, len(tree)):
        found.extend(line_clashes(tree, boxes, node, lines[node - 1]))
    pairs = combinations(range(1, len(tree)), 2)
    return found + [("lines", one, other) for one, other in pairs if lines_clash(tree, lines, one, other)]


class Twig:
    """A node that is itself, whatever its number: deeds are done on it, and it is found again behind them."""

    def __init__(self, label, tall, children):
        self.label = label
        self.tall = tall
        self.children = children
        self.folded = False

    def bough(self):
        """The twig and all below it, in a tree's order."""
        return [self] + [twig for child in self.children for twig in child.bough()]

    def height(self):
        """How many nodes stand one below the other at the most."""
        return 1 + max([child.height() for child in self.children], default=0)

    def depth_of(self, twig):
        """The level of a twig below this one, as if this were the root; None where it is none of its bough."""
        if twig is self:
            return 0
        depths = [child.depth_of(twig) for child in self.children]
        return next((depth + 1 for depth in depths if depth is not None), None)

    def in_sight(self):
        """As bough, but without what hangs below a folded twig."""
        return [self] + [twig for child in self.children if not self.folded for twig in child.in_sight()]


def twigs_of(form):
    return Twig(form[0], form[1], [twigs_of(child) for child in form[2]])


def form_of_twig(twig, seen=False):
    """The form of a twig's bough, or of what is seen of it."""
    below = [] if seen and twig.folded else twig.children
    return (twig.label, twig.tall, [form_of_twig(child, seen) for child in below])


class Judge:
    """What an easel is to tell, found by twigs: of the deed to come whether it is refused, and what is behind it."""

    def __init__(self, form):
        self.root = twigs_of(form)
        self.anew = list(range(len(self.root.bough())))

    def whole(self):
        return grown(form_of_twig(self.root))

    def folded(self):
        return [number for number, twig in enumerate(self.root.bough()) if twig.folded]

    def seen(self):
        twigs = self.root.bough()
        return (grown(form_of_twig(self.root, True)), [twigs.index(twig) for twig in self.root.in_sight()])

    def elder_of(self, twig):
        return [elder for elder in self.root.bough() if twig in elder.children][0]

    def named(self, deed, arguments):
        """The twigs that a deed names by their numbers; None for a number that none has."""
        twigs = self.root.bough()
        numbers = arguments[:2] if deed == "move" else arguments[:1]
        return [twigs[number] if 0 <= number < len(twigs) else None for number in numbers]

    def refusal(self, deed, arguments):
        """The class that a deed is refused with, None for one that is not."""
        named = self.named(deed, arguments)
        if None in named:
            return NoNode
        twig = named[0]
        if deed == "fold":
            return NoDeed if twig.folded or not twig.children else None
        if deed == "unfold":
            return None if twig.folded else NoDeed
        if deed == "cut":
            return NoDeed if twig is self.root else None
        if deed == "move" and (twig is self.root or named[1] in twig.bough()):
            return NoDeed
        new = twigs_of(formed(arguments[2])) if deed == "put" else twig
        children = [child for child in named[-1].children if child is not twig]
        if arguments[1 if deed == "put" else 2] not in range(len(children) + 1):
            return NoPlace
        count = len(self.root.bough()) + (len(new.bough()) if deed == "put" else 0)
        return NoTree if count > 40 or self.root.depth_of(named[-1]) + new.height() > 8 else None

    def do(self, deed, arguments):
        """Do a deed that is not refused."""
        before = self.root.in_sight()
        named = self.named(deed, arguments)
        touched = named[:1]
        if deed in ("fold", "unfold"):
            named[0].folded = deed == "fold"
        if deed in ("cut", "move"):
            touched = [self.elder_of(named[0])] + named[1:]
            touched[0].children.remove(named[0])
        if deed in ("put", "move"):
            new = twigs_of(formed(arguments[2])) if deed == "put" else named[0]
            named[-1].children.insert(arguments[1 if deed == "put" else 2], new)
        for twig in self.root.bough():
            twig.folded = twig.folded and twig.children != []
        after = self.root.in_sight()
        stirred = [twig for twig in after if twig in touched or twig not in before]
        self.anew = [number for number, twig in enumerate(after) if any(part in stirred for part in twig.in_sight())]
