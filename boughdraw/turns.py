"""The eight turns of a sheet, numbered from 0 to 7, and the lays of sheets on paper.

turned_point(turn, point): where the turn takes the point (x, y).
both_turns(one, other): the turn that is the one and then the other.
turn_back(turn): the turn that undoes it.
Standing(), Lying(), Turned(turn): lays; their spot(point) and box(box) tell where on the paper these come to lie.
"""

QUARTERS = 4


def turned_point(turn, point):
    spot = (-point[0], point[1]) if flips(turn) else point
    for quarter in range(turn % QUARTERS):
        spot = (-spot[1], spot[0])
    return spot


def flips(turn):
    return turn >= QUARTERS


def both_turns(one, other):
    # A flip behind quarters is the same as the quarters back behind the flip.
    quarters = other - one if flips(other) else other + one
    return numbered(flips(one) != flips(other), quarters)


def turn_back(turn):
    # A turn that flips undoes itself.
    return numbered(True, turn) if flips(turn) else numbered(False, -turn)


def numbered(flip, quarters):
    return quarters % QUARTERS + (QUARTERS if flip else 0)


class Standing:
    def spot(self, point):
        return point

    def box(self, box):
        one = self.spot((box[0], box[1]))
        other = self.spot((box[2], box[3]))
        return (min(one[0], other[0]), min(one[1], other[1]), max(one[0], other[0]), max(one[1], other[1]))


class Lying(Standing):
    def spot(self, point):
        return (point[1], point[0])


class Turned(Standing):
    def __init__(self, turn):
        self.turn = turn

    def spot(self, point):
        return turned_point(self.turn, point)
