"""The rules for drawings, held against any drawing of a tree.

broken(tree, places, gap, unit=256): the rules that the drawing breaks.
unlike(tree, places): the pairs of nodes that are drawn unlike though their boughs are like or mirrored.
width_of(tree, places, unit=256): the width of the drawing, in its unit.
"""

from boughdraw.boughs import forks, likeness
from boughdraw.trees import children_of, neighbours, reaches


def broken(tree, places, gap, unit=256):
    return broken_gaps(tree, places, gap, unit) + broken_middles(tree, places)


def broken_gaps(tree, places, gap, unit):
    asked = asked_gaps(tree, gap)
    return [("gap", one, other) for one, other, cells in asked if places[other] - places[one] < unit * cells]


def asked_gaps(tree, gap):
    # For neighbours, one and other: how many cells the other stands behind the one at the least.
    reach = reaches(tree)
    return [(one, other, reach[one] + reach[other] + gap + 1) for one, other in neighbours(tree)]


def broken_middles(tree, places):
    found = []
    for node in range(len(tree)):
        children = children_of(tree, node)
        if len(children) > 0 and 2 * places[node] != places[children[0]] + places[children[-1]]:
            found.append(("middle", node))
    return found


def unlike(tree, places):
    elders = forks(tree)
    found = []
    for number, one in enumerate(elders):
        for other in elders[number:]:
            found.extend([(one, other, word) for word in unlike_words(tree, places, one, other)])
    return sorted(found)


def unlike_words(tree, places, one, other):
    alike = likeness(tree, one, other)
    steps = steps_of(tree, places, one)
    other_steps = steps_of(tree, places, other)
    words = []
    if alike[0] and steps != other_steps:
        words.append("like")
    if alike[1] and steps != other_steps[::-1]:
        words.append("mirrored")
    return words


def steps_of(tree, places, node):
    children = children_of(tree, node)
    return [places[behind] - places[ahead] for ahead, behind in zip(children, children[1:])]


def width_of(tree, places, unit=256):
    both = list(zip(places, reaches(tree)))
    right = max([place + unit * (reach + 1) for place, reach in both])
    left = min([place - unit * reach for place, reach in both])
    return right - left
