"""The narrowest drawings, each with a paper that nothing is narrower.

narrowest(tree, gap, strict=False): a tuple (places, unit, pulls).

They are found by a plan. Its unknowns are numbered: 0 and 1 are the room from the root to the left and to the right
side, the others half steps, so that each place, told from the root's, is a sum of whole multiples of them. A demand is
a tuple (row, cells): the unknowns, each times its number in the row, come to so many cells at the least. The pulls are
prices of the demands: unknown by unknown, the prices times the rows come to 1 for both rooms and to 0 for half steps.
So the prices times the cells come to no more than both rooms; they are changed until they come to just as much.
"""

from boughdraw.boughs import forks, like_groups
from boughdraw.errors import TooMany
from boughdraw.places import moved_to_side
from boughdraw.rules import asked_gaps
from boughdraw.trees import children_of, levels_of, neighbours, reaches

MOST_PLANNED = 12
ROOMS = 2


def narrowest(tree, gap, strict=False):
    if len(tree) > MOST_PLANNED:
        raise TooMany("the narrowest drawing is told of trees of at most 12 nodes")
    spots = place_rows(tree, strict)
    demands = side_demands(tree, spots) + gap_demands(tree, spots, gap)
    chosen = lone_demands(demands)
    rows = first_rows(demands, chosen)
    settle(rows, chosen, len(demands))
    # The last row is by now the cells, so many times as its own mark tells, less the other rows times the unknowns.
    unit = rows[-1][-2]
    sizes = [-mark for mark in rows[-1][len(demands):-2]]
    places = [sum([times * size for times, size in zip(spot, sizes)]) for spot in spots]
    return (moved_to_side(tree, places, unit), unit, told_pulls(tree, told_prices(rows, chosen, len(demands))))


def step_numbers(tree, strict):
    # For each fork the numbers of its half steps, and how many unknowns there are in all.
    groups = like_groups(tree) if strict else [[(node, True, False)] for node in forks(tree)]
    numbers = {}
    count = ROOMS
    for group in groups:
        steps = group_steps(tree, group[0], count)
        for node, like, mirror in group:
            numbers[node] = steps if like else steps[::-1]
        count = max(steps) + 1
    return (numbers, count)


def group_steps(tree, first, count):
    last = len(children_of(tree, first[0])) - 2
    if first[2]:
        # Mirrored to itself: each step is as long as the one at its place from the end.
        return [count + min(place, last - place) for place in range(last + 1)]
    return [count + place for place in range(last + 1)]


def place_rows(tree, strict):
    steps = step_numbers(tree, strict)
    rows = [[0] * steps[1]]
    for node in range(1, len(tree)):
        elder = tree[node][0]
        ahead = children_of(tree, elder).index(node)
        row = list(rows[elder])
        for place, number in enumerate(steps[0].get(elder, [])):
            row[number] += 1 if place < ahead else -1
        rows.append(row)
    return rows


def side_demands(tree, spots):
    reach = reaches(tree)
    levels = levels_of(tree)
    left = [([1, 0] + spots[level[0]][ROOMS:], reach[level[0]]) for level in levels]
    right = [([0, 1] + [-times for times in spots[level[-1]][ROOMS:]], reach[level[-1]]) for level in levels]
    return left + right


def gap_demands(tree, spots, gap):
    demands = []
    for one, other, cells in asked_gaps(tree, gap):
        row = [behind - ahead for ahead, behind in zip(spots[one], spots[other])]
        demands.append((row, cells))
    return demands


def lone_demands(demands):
    # For each unknown a demand that asks for it alone: the plan begins with prices for these.
    chosen = []
    for number in range(len(demands[0][0])):
        lone = [place for place, demand in enumerate(demands) if asks_alone(demand[0], number)]
        chosen.append(lone[0])
    return chosen


def asks_alone(row, number):
    return row[number] > 0 and not any(row[:number]) and not any(row[number + 1:])


def first_rows(demands, chosen):
    # A row for each unknown, its numbers in the demands, and a last one of the demands' cells. Behind these numbers
    # stand marks, which first rows a row is made up of by now, and last what the prices times the row come to.
    count = len(chosen)
    rows = []
    for number in range(count):
        row = [demand[0][number] for demand in demands]
        rows.append(row + marks(count, number) + [1 if number < ROOMS else 0])
    rows.append([demand[1] for demand in demands] + marks(count, count) + [0])
    for number, column in enumerate(chosen):
        rows[-1] = cleared(rows[-1], rows[number], column)
    return rows


def marks(count, number):
    return [1 if place == number else 0 for place in range(count + 1)]


def settle(rows, chosen, count):
    column = first_short(rows[-1], count)
    while column >= 0:
        number = row_given_up(rows, chosen, column)
        chosen[number] = column
        for other in range(len(rows)):
            if other != number:
                rows[other] = cleared(rows[other], rows[number], column)
        column = first_short(rows[-1], count)


def first_short(row, count):
    # The first demand that the unknowns of the last row fall short of: its price is worth raising. Always to take
    # the first one, here and where a row is given up, is what keeps the plan from going round in a ring.
    found = [column for column in range(count) if row[column] > 0]
    return found[0] if len(found) > 0 else -1


def row_given_up(rows, chosen, column):
    # The row whose price is the soonest at 0 while the price of the column is raised.
    found = -1
    for number in range(len(chosen)):
        if rows[number][column] > 0 and (found < 0 or is_sooner(rows, chosen, column, number, found)):
            found = number
    return found


def is_sooner(rows, chosen, column, one, other):
    first = rows[one][-1] * rows[other][column]
    second = rows[other][-1] * rows[one][column]
    return first < second or (first == second and chosen[one] < chosen[other])


def cleared(row, pivot, column):
    # The number that the row is taken times is above 0: no row is turned round by it.
    return lowered([pivot[column] * own - row[column] * other for own, other in zip(row, pivot)])


def lowered(numbers):
    divisor = 0
    for number in numbers:
        divisor = common_divisor(divisor, number)
    return [number // divisor for number in numbers]


def common_divisor(one, other):
    while other != 0:
        rest = one % other
        one = other
        other = rest
    return abs(one)


def told_prices(rows, chosen, count):
    bottom = 1
    for row, column in zip(rows, chosen):
        bottom *= row[column]
    prices = [0] * count
    for row, column in zip(rows, chosen):
        prices[column] = row[-1] * (bottom // row[column])
    return lowered(prices)


def told_pulls(tree, prices):
    levels = levels_of(tree)
    count = len(levels)
    gaps = [0] * len(tree)
    for pair, price in zip(neighbours(tree), prices[2 * count:]):
        gaps[pair[1]] = price
    return (prices[:count], prices[count:2 * count], gaps)
