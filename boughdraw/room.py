"""Outlines side by side: how near two of them may stand, and the room of a row.

nearest(one, other, gap): a tuple (distance, level).
room_of(outlines, gap): a tuple of two lists, the earliest and the latest places.
"""

SHREDS = 256


def nearest(one, other, gap):
    apart = SHREDS * (gap + 1)
    asked = [ahead[1] + apart - behind[0] for ahead, behind in zip(one, other)]
    distance = max(asked)
    return (distance, asked.index(distance))


def room_of(outlines, gap):
    earliest = earliest_places(outlines, gap)
    return (earliest, latest_places(outlines, gap, earliest[-1]))


def earliest_places(outlines, gap):
    # A deep outline far ahead may ask for more than the neighbour: all are heard.
    places = [0]
    for number in range(1, len(outlines)):
        asked = [places[ahead] + nearest(outlines[ahead], outlines[number], gap)[0] for ahead in range(number)]
        places.append(max(asked))
    return places


def latest_places(outlines, gap, last):
    # Set from the end on, so that each place that is read stands already.
    count = len(outlines)
    places = [last] * count
    for number in range(count - 2, -1, -1):
        one = outlines[number]
        asked = [places[behind] - nearest(one, outlines[behind], gap)[0] for behind in range(number + 1, count)]
        places[number] = min(asked)
    return places
