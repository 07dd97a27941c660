"""Deeds on trees, as an easel does them: what is refused, and what becomes of the tree.

cut_off(tree, node), put_in(tree, elder, place, other), moved(tree, node, elder, place): a tuple (tree, numbers) of the
tree behind the deed and the number that each of its nodes had ahead of it; those of the other tree are counted on
behind the last one.
shown(tree, folds): a tuple (tree, numbers) likewise, of what is seen where these nodes are folded.
check_fold(tree, folds, node), check_unfold(tree, folds, node): refuse what may not be folded or unfolded.
"""

from boughdraw.boughs import bough_end, renumbered
from boughdraw.errors import NoDeed, NoPlace, NoTree
from boughdraw.trees import GREATEST_LEVEL, MOST_NODES, check_node, children_of, node_levels


def shown(tree, folds):
    seen = []
    for row in tree:
        seen.append(row[0] == -1 or (seen[row[0]] and row[0] not in folds))
    numbers = [number for number, is_seen in enumerate(seen) if is_seen]
    return (renumbered(tree, numbers), numbers)


def check_fold(tree, folds, node):
    check_node(tree, node)
    if node in folds or len(children_of(tree, node)) == 0:
        raise NoDeed("only a node that has children and is not folded is folded")


def check_unfold(tree, folds, node):
    check_node(tree, node)
    if node not in folds:
        raise NoDeed("only a folded node is unfolded")


def cut_off(tree, node):
    check_node(tree, node)
    if node == 0:
        raise NoDeed("the root is not cut")
    numbers = numbers_beside(tree, node)
    return (renumbered(tree, numbers), numbers)


def numbers_beside(tree, node):
    return list(range(node)) + list(range(bough_end(tree, node), len(tree)))


def put_in(tree, elder, place, other):
    check_node(tree, elder)
    later = number_behind(tree, elder, children_of(tree, elder), place)
    rows = tree + [(elder, other[0][1], other[0][2])]
    for row in other[1:]:
        rows.append((row[0] + len(tree), row[1], row[2]))
    new = list(range(len(tree), len(rows)))
    return bounded(rows, list(range(later)) + new + list(range(later, len(tree))))


def moved(tree, node, elder, place):
    check_node(tree, node)
    check_node(tree, elder)
    end = bough_end(tree, node)
    # Every elder lies in the bough of the root, so this refuses to move the root too.
    if node <= elder < end:
        raise NoDeed("no node is moved under one of its own bough")
    children = [child for child in children_of(tree, elder) if child != node]
    later = number_behind(tree, elder, children, place)
    rows = tree[:node] + [(elder, tree[node][1], tree[node][2])] + tree[node + 1:]
    rest = numbers_beside(tree, node)
    ahead = [number for number in rest if number < later]
    behind = [number for number in rest if number >= later]
    return bounded(rows, ahead + list(range(node, end)) + behind)


def number_behind(tree, elder, children, place):
    # The number that stands just behind a bough which is put at this place among the children.
    if place < 0 or place > len(children):
        raise NoPlace("a place is told from 0 to the number of children")
    return children[place] if place < len(children) else bough_end(tree, elder)


def bounded(rows, numbers):
    if len(numbers) > MOST_NODES:
        raise NoTree("the whole would have more than 40 nodes")
    tree = renumbered(rows, numbers)
    if max(node_levels(tree)) > GREATEST_LEVEL:
        raise NoTree("the whole would have a level above 8")
    return (tree, numbers)
