"""Pictures of trees: the quick drawing written as rows of signs.

picture(tree, gap): the picture, a list of texts from above to below.
"""

from boughdraw.places import drawn
from boughdraw.room import SHREDS
from boughdraw.trees import children_of, levels_of, reaches


def picture(tree, gap):
    columns = columns_of(tree, gap)
    rows = []
    for level in levels_of(tree):
        rows.append(label_row(tree, columns, level))
        rows.extend(rows_below(tree, columns, level))
        elders = [node for node in level if len(children_of(tree, node)) > 0]
        # On the last level, and there alone, nobody has children.
        if len(elders) > 0:
            rows.append(bar_row(tree, columns, elders))
    return rows


def columns_of(tree, gap):
    return [place // SHREDS for place in drawn(tree, gap)]


def laid(parts):
    # The parts (column, signs) come from left to right and never meet.
    row = ""
    for column, signs in parts:
        row = row.ljust(column) + signs
    return row.rstrip(" ")


def label_row(tree, columns, level):
    reach = reaches(tree)
    return laid([(columns[node] - reach[node], tree[node][1]) for node in level])


def rows_below(tree, columns, level):
    tallest = max([tree[node][2] for node in level])
    return [laid([(columns[node], sign_below(tree, node, number)) for node in level]) for number in range(1, tallest)]


def sign_below(tree, node, number):
    if number < tree[node][2]:
        return ":"
    return "|" if len(children_of(tree, node)) > 0 else " "


def bar_row(tree, columns, elders):
    parts = []
    for elder in elders:
        below = [columns[child] for child in children_of(tree, elder)]
        parts.append((below[0], bar_signs(columns[elder], below)))
    return laid(parts)


def bar_signs(own, below):
    signs = ""
    for column in range(below[0], below[-1] + 1):
        if column == own:
            signs += "#" if column in below else "^"
        else:
            signs += "+" if column in below else "-"
    return signs
