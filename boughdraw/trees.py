"""Trees as lists of nodes (elder, label, tall), numbered from 0 in their order.

made_tree(rows): the tree that the rows are, else NoTree.
children_of(tree, node): the numbers of the node's children.
levels_of(tree): the numbers of the nodes, level by level.
reaches(tree): how many cells each label reaches to either side of its middle cell.
"""

from boughdraw.errors import NoNode, NoTree

MOST_NODES = 40
GREATEST_LEVEL = 8
LONGEST_LABEL = 9
GREATEST_TALL = 9
LETTERS = "abcdefghijklmnopqrstuvwxyz"


def made_tree(rows):
    if len(rows) < 1 or len(rows) > MOST_NODES:
        raise NoTree("a tree has 1 to 40 nodes")
    for number, row in enumerate(rows):
        check_elder(rows, number)
        check_label(row[1])
        check_tall(row[2])
    # Only now do all elders lie ahead of their nodes, as the levels need it.
    if max(node_levels(rows)) > GREATEST_LEVEL:
        raise NoTree("no level is above 8")
    return list(rows)


def check_elder(rows, number):
    elder = rows[number][0]
    if number == 0:
        if elder != -1:
            raise NoTree("the elder of the root is told as -1")
    elif not is_on_way_up(rows, number - 1, elder):
        raise NoTree("an elder is the node just ahead or on its way up to the root")


def is_on_way_up(rows, start, wanted):
    # The wanted number may be any at all, so it is compared and never an index.
    node = start
    while node != -1 and node != wanted:
        node = rows[node][0]
    return node != -1


def check_label(label):
    if not is_label(label):
        raise NoTree("a label has one to nine small letters from a to z")


def is_label(text):
    return 1 <= len(text) <= LONGEST_LABEL and all([sign in LETTERS for sign in text])


def check_tall(tall):
    if tall < 1 or tall > GREATEST_TALL:
        raise NoTree("a node takes 1 to 9 rows")


def check_node(tree, node):
    if node < 0 or node >= len(tree):
        raise NoNode("no node has this number")


def children_of(tree, node):
    check_node(tree, node)
    return [number for number, row in enumerate(tree) if row[0] == node]


def node_levels(tree):
    levels = []
    for row in tree:
        levels.append(0 if row[0] == -1 else levels[row[0]] + 1)
    return levels


def levels_of(tree):
    numbers = []
    for node, level in enumerate(node_levels(tree)):
        # An elder stands ahead of its children, so a new level is the next one.
        if level == len(numbers):
            numbers.append([])
        numbers[level].append(node)
    return numbers


def neighbours(tree):
    pairs = []
    for level in levels_of(tree):
        pairs.extend([(one, other) for one, other in zip(level, level[1:])])
    return pairs


def reaches(tree):
    return [len(row[1]) // 2 for row in tree]
