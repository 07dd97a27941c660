"""Quick drawings of trees: where the nodes stand, and how many rows lie above each level.

drawn(tree, gap): the places of the nodes.
outline_of(tree, node, gap): the outline of the node's bough.
tops(tree, between=1): for each level how many rows lie above it.
"""

from boughdraw.boughs import bough_of
from boughdraw.room import SHREDS, room_of
from boughdraw.trees import children_of, levels_of, reaches


def drawn(tree, gap):
    offsets = pieces(tree, gap)[0]
    places = [0]
    for node in range(1, len(tree)):
        places.append(places[tree[node][0]] + offsets[node])
    return moved_to_side(tree, places, SHREDS)


def moved_to_side(tree, places, unit):
    least = min([place - unit * reach for place, reach in zip(places, reaches(tree))])
    return [place - least for place in places]


def outline_of(tree, node, gap):
    return pieces(bough_of(tree, node), gap)[1][0]


def pieces(tree, gap):
    # For each node its place, told from its elder's, and the outline of its bough.
    offsets = [0] * len(tree)
    outlines = [[(-SHREDS * reach, SHREDS * reach)] for reach in reaches(tree)]
    # From the last node back, so that children are drawn ahead of their elder.
    for node in range(len(tree) - 1, -1, -1):
        children = children_of(tree, node)
        if len(children) > 0:
            below = [outlines[child] for child in children]
            stands = stands_below(below, gap)
            for child, stand in zip(children, stands):
                offsets[child] = stand
            outlines[node].extend(joined_outline(below, stands))
    return (offsets, outlines)


def stands_below(outlines, gap):
    room = room_of(outlines, gap)
    # The first child stands at 0, and the last where its earliest and latest place agree.
    elder = room[0][-1] // 2
    return [(earliest + latest) // 2 - elder for earliest, latest in zip(room[0], room[1])]


def joined_outline(outlines, stands):
    joined = []
    for level in range(max([len(outline) for outline in outlines])):
        there = [number for number, outline in enumerate(outlines) if level < len(outline)]
        left = min([stands[number] + outlines[number][level][0] for number in there])
        right = max([stands[number] + outlines[number][level][1] for number in there])
        joined.append((left, right))
    return joined


def tops(tree, between=1):
    rows_above = [0]
    for level in levels_of(tree)[:-1]:
        tallest = max([tree[node][2] for node in level])
        rows_above.append(rows_above[-1] + tallest + between)
    return rows_above
