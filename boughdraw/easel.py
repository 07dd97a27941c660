"""An easel keeps a tree that is changed by deeds, and which of its nodes are folded.

Easel(tree, gap): whole(), folded(), seen(), drawing() and redrawn() tell of it; fold(node), unfold(node), cut(node),
put(elder, place, tree) and move(node, elder, place) are its deeds, refused with NoNode, NoDeed, NoPlace or NoTree.
"""

from boughdraw.deeds import check_fold, check_unfold, cut_off, moved, put_in, shown
from boughdraw.places import drawn


class Easel:
    def __init__(self, tree, gap):
        self.tree = list(tree)
        self.gap = gap
        self.folds = []
        self.anew = list(range(len(tree)))

    def whole(self):
        return list(self.tree)

    def folded(self):
        return list(self.folds)

    def seen(self):
        return shown(self.tree, self.folds)

    def drawing(self):
        return drawn(self.seen()[0], self.gap)

    def redrawn(self):
        return list(self.anew)

    def fold(self, node):
        check_fold(self.tree, self.folds, node)
        self.settle(unchanged(self.tree), self.folds + [node], [node])

    def unfold(self, node):
        check_unfold(self.tree, self.folds, node)
        self.settle(unchanged(self.tree), [number for number in self.folds if number != node], [node])

    def cut(self, node):
        self.settle(cut_off(self.tree, node), self.folds, [self.tree[node][0]])

    def put(self, elder, place, tree):
        self.settle(put_in(self.tree, elder, place, tree), self.folds, [elder])

    def move(self, node, elder, place):
        self.settle(moved(self.tree, node, elder, place), self.folds, [self.tree[node][0], elder])

    def settle(self, changed, folds, touched):
        # Folds and touched name nodes by their numbers ahead of the deed, as the numbers in changed do.
        before = self.seen()[1]
        self.tree = changed[0]
        self.folds = kept_folds(changed, folds)
        now = self.seen()
        numbers = [changed[1][number] for number in now[1]]
        # Whoever is seen now and was not before came into sight; new nodes have numbers that no node had.
        roused = [node for node, number in enumerate(numbers) if number in touched or number not in before]
        self.anew = with_elders(now[0], roused)


def unchanged(tree):
    return (tree, list(range(len(tree))))


def kept_folds(changed, folds):
    elders = [row[0] for row in changed[0]]
    return [node for node, number in enumerate(changed[1]) if number in folds and node in elders]


def with_elders(tree, nodes):
    found = {}
    for node in nodes:
        higher = node
        while higher != -1:
            found[higher] = True
            higher = tree[higher][0]
    return sorted(list(found))
