"""Boughs: told as trees of their own, mirrored, and held against each other.

bough_of(tree, node): the node's bough as a tree.
mirrored(tree): a tuple of the mirrored tree and the numbers that its nodes had.
likeness(tree, one, other): whether the one's bough is like the other's, and
whether it is mirrored to it.
"""

from boughdraw.trees import check_node, children_of, reaches


def bough_of(tree, node):
    check_node(tree, node)
    bough = [(-1, tree[node][1], tree[node][2])]
    for row in tree[node + 1:bough_end(tree, node)]:
        bough.append((row[0] - node, row[1], row[2]))
    return bough


def bough_end(tree, node):
    # A bough stands in one piece: the first later node with an elder ahead of
    # this node lies outside, and so do all behind it.
    end = node + 1
    while end < len(tree) and tree[end][0] >= node:
        end += 1
    return end


def mirrored(tree):
    numbers = mirrored_order(tree)
    return (renumbered(tree, numbers), numbers)


def mirrored_order(tree):
    order = []
    waiting = [0]
    while len(waiting) > 0:
        # Taken from the end, the last child comes first, each with its whole bough.
        node = waiting.pop()
        order.append(node)
        waiting.extend(children_of(tree, node))
    return order


def renumbered(rows, numbers):
    # The tree of those rows that the numbers name, in this order; their elders must be among them.
    places = {-1: -1}
    for place, number in enumerate(numbers):
        places[number] = place
    named = [rows[number] for number in numbers]
    return [(places[row[0]], row[1], row[2]) for row in named]


def likeness(tree, one, other):
    form = form_of(bough_of(tree, one))
    bough = bough_of(tree, other)
    mirror = mirrored(bough)[0]
    return (form == form_of(bough), form == form_of(mirror))


def form_of(bough):
    # Signs and tall say nothing of likeness, so they are left out here.
    elders = [row[0] for row in bough]
    return (elders, reaches(bough))


def forks(tree):
    return [node for node in range(len(tree)) if len(children_of(tree, node)) > 1]


def like_groups(tree):
    # Each group holds tuples (node, like, mirror): how the node's bough is to that of the group's first one.
    groups = []
    waiting = forks(tree)
    while len(waiting) > 0:
        held = [(node,) + likeness(tree, node, waiting[0]) for node in waiting]
        groups.append([member for member in held if member[1] or member[2]])
        waiting = [node for node, like, mirror in held if not like and not mirror]
    return groups
