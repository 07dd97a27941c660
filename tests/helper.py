"""Trees for the tests, grown from nested forms, apart from the program's own ways.

A form is a tuple (label, tall, children), children being a list of forms.
"""


def leaf(label="a", tall=1):
    return (label, tall, [])


def line(count):
    """A form of so many nodes, each with one child but the last."""
    form = leaf()
    for step in range(count - 1):
        form = ("a", 1, [form])
    return form


def listed(form):
    """The forms of all nodes in the tree's order, each with its elder's number and level."""
    found = []

    def walk(part, elder, level):
        number = len(found)
        found.append((part, elder, level))
        for child in part[2]:
            walk(child, number, level + 1)

    walk(form, -1, 0)
    return found


def grown(form):
    """The rows of a form: a tree, where the form keeps to the bounds."""
    return [(elder, part[0], part[1]) for part, elder, level in listed(form)]


def turned(form):
    """The form with the children of each node in the other order."""
    return (form[0], form[1], [turned(child) for child in form[2][::-1]])


def shape(form):
    """What likeness looks at: reach and children, nested."""
    return (len(form[0]) // 2, [shape(child) for child in form[2]])


def woods(count):
    """All rows of bare nested lists that have so many nodes together."""
    if count == 0:
        return [[]]
    found = []
    for first in range(1, count + 1):
        for inner in woods(first - 1):
            for rest in woods(count - first):
                found.append([inner] + rest)
    return found


def dressed(bare, labels):
    """A form of a bare nested list, with labels and tall given round about in its order."""
    counted = [0]

    def dress(part):
        number = counted[0]
        counted[0] += 1
        label = labels[number % len(labels)]
        return (label, number % 9 + 1, [dress(child) for child in part])

    return dress(bare)


def all_forms(most, labels):
    """Each form of up to so many nodes, dressed with the labels."""
    return [dressed(bare, labels) for count in range(1, most + 1) for bare in woods(count - 1)]


def wide_form():
    """A form of 40 nodes: 13 boughs of three nodes under a root."""
    return ("root", 2, [("abc", 1, [leaf("d", 9), leaf("efghi", 3)]) for step in range(13)])


def deep_form():
    """A form of 40 nodes that reaches level 8, with leaves at both sides on the way."""
    form = leaf("abcdefghi", 9)
    for step in range(8):
        ahead = [leaf("x" * (step + 1), 9 - step)]
        behind = [leaf("de"[number % 2:] + "f" * step, number + 1) for number in range(2 if step == 0 else 3)]
        form = ("go", step + 1, ahead + [form] + behind)
    return form


def fine_form():
    """A form of 24 nodes, up to level 8, each level of which halves the shreds once more, down to single ones."""
    form = ("a", 1, [leaf("b"), leaf("cd")])
    for step in range(7):
        form = ("a", 1, [form, line(2)])
    return form


def strewn(seed, count):
    """Rows of a tree of so many nodes, strewn by a plain row of numbers that begins with the seed."""
    number = seed
    rows = []
    way = []
    for node in range(count):
        number = (number * 1103515245 + 12345) % 2 ** 31
        way = way[:min(number // 65536 % (len(way) + 1) + 1, 8)]
        label = "abcdefghi"[:number // 4096 % 9 + 1] if number // 256 % 2 == 0 else "a"
        rows.append((way[-1] if way else -1, label, number // 1024 % 9 + 1))
        way.append(node)
    return rows


def formed(rows):
    """The form that the rows were grown from."""
    forms = [(row[1], row[2], []) for row in rows]
    for node in range(1, len(rows)):
        forms[rows[node][0]][2].append(forms[node])
    return forms[0]
