"""Trees hung as lists of texts, one row for each node.

hung_rows(tree): the hung list of the tree.
read_hung(rows): the tree whose hung list the rows are, else NoPicture.
"""

from boughdraw.errors import NoPicture, NoTree
from boughdraw.trees import made_tree


def hung_rows(tree):
    last = last_children(tree)
    # What stands ahead of the rows of each node's children.
    ahead = [""]
    rows = [label_signs(tree[0])]
    for node in range(1, len(tree)):
        elder = tree[node][0]
        is_last = last[elder] == node
        ahead.append(ahead[elder] + ("  " if is_last else "| "))
        rows.append(ahead[elder] + ("'-" if is_last else "+-") + label_signs(tree[node]))
    return rows


def last_children(tree):
    last = {}
    for node, row in enumerate(tree):
        last[row[0]] = node
    return last


def label_signs(row):
    return row[1] + ":" * (row[2] - 1)


def read_hung(rows):
    try:
        tree = made_tree(likely_rows(rows))
    except NoTree:
        raise NoPicture("the rows tell no tree") from None
    # The rows were read without a look at each sign; here all of them are held to the letter.
    if hung_rows(tree) != rows:
        raise NoPicture("the rows are not the hung list of a tree")
    return tree


def likely_rows(rows):
    nodes = []
    # The nodes on the way down to the one just ahead, itself too.
    way = []
    for number, row in enumerate(rows):
        signs = row.lstrip(" |+'-")
        level = (len(row) - len(signs)) // 2
        if level > len(way):
            raise NoPicture("a row hangs under no row ahead")
        label = signs.rstrip(":")
        way = way[:level] + [number]
        nodes.append((-1 if level == 0 else way[level - 1], label, len(signs) - len(label) + 1))
    return nodes
