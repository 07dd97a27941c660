"""Pictures read again.

read_picture(rows, gap): the tree whose picture with this gap the rows are, else NoPicture.
"""

from boughdraw.errors import NoPicture, NoTree
from boughdraw.pictures import columns_of, picture
from boughdraw.trees import MOST_NODES, made_tree


def read_picture(rows, gap):
    # A node's way comes behind its elder's and ahead of its later brothers', so this is the tree's order.
    nodes = sorted(likely_nodes(rows))
    try:
        tree = made_tree(hung_by_ways(nodes))
    except NoTree:
        raise NoPicture("the rows tell no tree") from None
    # The rows were read without a look at each sign; here all of them are held to the letter. The columns come
    # first, as they tell ahead of it whether the picture of this tree is far wider than the rows.
    if columns_of(tree, gap) != [way[-1] for way, label, tall in nodes] or picture(tree, gap) != rows:
        raise NoPicture("the rows are not the picture of a tree with this gap")
    return tree


def likely_nodes(rows):
    # Tuples (way, label, tall), a way being the columns of the nodes from the root down to this one.
    nodes = []
    # The ways of the level above by their columns; over the root there is but the empty one.
    above = {-1: ()}
    elder_columns = {}
    for part in level_parts(rows):
        here = {}
        for column, label, tall in labels_in(part):
            elder = elder_columns.get(column, -1)
            if elder not in above:
                raise NoPicture("a label hangs under no other one")
            here[column] = above[elder] + (column,)
            nodes.append((here[column], label, tall))
        # Not left to the end, as the ways of very many nodes would take very much room.
        if len(nodes) > MOST_NODES:
            raise NoPicture("a tree has at most 40 nodes")
        above = here
        elder_columns = elders_by_bars(part[-1])
    return nodes


def level_parts(rows):
    # The rows of each level, the one with the labels first: it alone has other signs than these.
    parts = []
    for row in rows:
        if row.strip(" :|+-^#") != "":
            parts.append([])
        if len(parts) == 0:
            raise NoPicture("a picture begins with a label")
        parts[-1].append(row)
    return parts


def labels_in(part):
    found = []
    for start, label in words_in(part[0]):
        column = start + len(label) // 2
        colons = [row for row in part if row[column:column + 1] == ":"]
        found.append((column, label, len(colons) + 1))
    return found


def words_in(row):
    # With the column that each one begins at.
    words = []
    start = 0
    for word in row.split(" "):
        if word != "":
            words.append((start, word))
        start += len(word) + 1
    return words


def elders_by_bars(row):
    # The gap parts the bars of one elder from those of the next, so each word has one elder's mark.
    elders = {}
    for start, bars in words_in(row):
        mark = start + max(bars.find("^"), bars.find("#"))
        for place, sign in enumerate(bars):
            if sign in "+#":
                elders[start + place] = mark
    return elders


def hung_by_ways(nodes):
    numbers = {(): -1}
    for number, node in enumerate(nodes):
        numbers[node[0]] = number
    return [(numbers[way[:-1]], label, tall) for way, label, tall in nodes]
