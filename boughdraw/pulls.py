"""Pulls at the sides and gaps of a drawing, a tuple (left, right, gaps) of lists of whole numbers.

leans(tree, pulls): for each node what the pulls lean on each of its children but the first.
is_paper(tree, pulls, strict=False): whether the pulls tell how wide each drawing (each strict one) is at the least.
worth(tree, gap, pulls): what they come to.
"""

from boughdraw.boughs import like_groups
from boughdraw.rules import asked_gaps
from boughdraw.trees import children_of, levels_of, neighbours, reaches


def leans(tree, pulls):
    sums = bough_pulls(tree, pulls)
    return [child_leans([sums[child] for child in children_of(tree, node)]) for node in range(len(tree))]


def child_leans(sums):
    return [sum(sums[place:]) - sum(sums[:place]) for place in range(1, len(sums))]


def bough_pulls(tree, pulls):
    sums = node_pulls(tree, pulls)
    # From the last node back, so that each bough is whole when it is added to its elder's.
    for node in range(len(tree) - 1, 0, -1):
        sums[tree[node][0]] += sums[node]
    return sums


def node_pulls(tree, pulls):
    told = list(pulls[2])
    for one, other in neighbours(tree):
        told[one] -= pulls[2][other]
    for level, left, right in zip(levels_of(tree), pulls[0], pulls[1]):
        told[level[0]] += left
        told[level[-1]] -= right
    return told


def is_paper(tree, pulls, strict=False):
    if not are_pulls(tree, pulls):
        return False
    bottom = sum(pulls[0])
    if bottom < 1 or bottom != sum(pulls[1]):
        return False
    felt = leans(tree, pulls)
    if strict:
        felt = [group_leans(felt, group) for group in like_groups(tree)]
    return not any([any(row) for row in felt])


def are_pulls(tree, pulls):
    levels = levels_of(tree)
    if [len(part) for part in pulls] != [len(levels), len(levels), len(tree)]:
        return False
    least = min([min(part) for part in pulls])
    return least >= 0 and not any([pulls[2][level[0]] for level in levels])


def group_leans(felt, group):
    rows = [felt[node] for node, like, mirror in group if like]
    rows.extend([felt[node][::-1] for node, like, mirror in group if mirror])
    return [sum([row[place] for row in rows]) for place in range(len(rows[0]))]


def worth(tree, gap, pulls):
    reach = reaches(tree)
    total = sum(pulls[0])
    for level, left, right in zip(levels_of(tree), pulls[0], pulls[1]):
        total += left * reach[level[0]] + right * reach[level[-1]]
    return total + sum([pulls[2][other] * cells for one, other, cells in asked_gaps(tree, gap)])
