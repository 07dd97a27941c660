"""Trees as texts, as in ab*3(c,de(f,g*2)).

tree_text(tree): the text of the tree.
read_tree(text): the tree that the text tells, else NoText or NoTree.
"""

from boughdraw.errors import NoText
from boughdraw.trees import children_of, is_label, made_tree

MOST_SIGNS = 600
DEEPEST = 100
TALL_FIGURES = "23456789"


def tree_text(tree):
    texts = [node_text(row[1], row[2]) for row in tree]
    # From the last node back, so that children's texts are whole ahead of their elder's.
    for node in range(len(tree) - 1, -1, -1):
        children = children_of(tree, node)
        if len(children) > 0:
            texts[node] = texts[node] + "(" + ",".join([texts[child] for child in children]) + ")"
    return texts[0]


def node_text(label, tall):
    return label if tall <= 1 else f"{label}*{tall}"


def read_tree(text):
    if not isinstance(text, str) or len(text) > MOST_SIGNS:
        raise NoText("a tree's text is a text of at most 600 signs")
    # All of the text is read first: where it is none, that is the refusal,
    # however many nodes and levels it has told up to there.
    return made_tree(read_rows(text))


def read_rows(text):
    rows = []
    # The last number here is the elder of the node to come: -1 outside of all brackets.
    opened = [-1]
    place = 0
    unread = True
    while unread:
        end = node_end(text, place)
        rows.append(read_node(opened[-1], text[place:end]))
        if text[end:end + 1] == "(":
            opened.append(len(rows) - 1)
            check_depth(len(opened) - 1)
        else:
            end = shut_brackets(text, end, opened)
            unread = goes_on(text, end, len(opened) - 1)
        place = end + 1
    return rows


def node_end(text, place):
    end = place
    while end < len(text) and text[end] not in "(),":
        end += 1
    return end


def read_node(elder, part):
    pieces = part.partition("*")
    if not is_label(pieces[0]):
        raise NoText("each node has a label of one to nine small letters")
    if pieces[1] == "":
        return (elder, pieces[0], 1)
    if len(pieces[2]) != 1 or pieces[2] not in TALL_FIGURES:
        raise NoText("behind * stands one figure from 2 to 9")
    return (elder, pieces[0], int(pieces[2]))


def check_depth(depth):
    if depth > DEEPEST:
        raise NoText("brackets are at most a hundred deep")


def shut_brackets(text, place, opened):
    # The -1 stands for no bracket, so it stays.
    while text[place:place + 1] == ")" and len(opened) > 1:
        opened.pop()
        place += 1
    return place


def goes_on(text, place, depth):
    # Behind a whole bough there is a comma within brackets, or the end outside of them.
    if depth > 0 and text[place:place + 1] == ",":
        return True
    if depth > 0 or place < len(text):
        raise NoText("a bracket is not shut, or signs stand where none may")
    return False
