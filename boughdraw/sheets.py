"""Quick drawings laid on sheets, in shreds, 256 to a cell and to a row.

boxes(tree, gap, between=1): for each node its box (left, top, right, bottom).
lines(tree, gap, between=1): for each node but the root its line, three points (x, y) from its elder to it.
"""

from boughdraw.places import drawn, tops
from boughdraw.room import SHREDS
from boughdraw.trees import node_levels, reaches


def boxes(tree, gap, between=1):
    above = level_tops(tree, between)
    told = []
    for row, place, reach, level in zip(tree, drawn(tree, gap), reaches(tree), node_levels(tree)):
        bottom = above[level] + SHREDS * row[2]
        told.append((place - SHREDS * reach, above[level], place + SHREDS * (reach + 1), bottom))
    return told


def level_tops(tree, between):
    return [SHREDS * rows for rows in tops(tree, between)]


def lines(tree, gap, between=1):
    bottoms = [box[3] for box in boxes(tree, gap, between)]
    middles = [place + SHREDS // 2 for place in drawn(tree, gap)]
    above = level_tops(tree, between)
    levels = node_levels(tree)
    told = []
    for node in range(1, len(tree)):
        elder = tree[node][0]
        top = above[levels[node]]
        # The tallest box of the elder's level ends just so many rows ahead of this top.
        bend = top - SHREDS * between
        told.append(((middles[elder], bottoms[elder]), (middles[elder], bend), (middles[node], top)))
    return told
