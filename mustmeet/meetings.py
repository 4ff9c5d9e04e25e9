"""The points of a drawing round the rim, and the meetings of its corners."""

from mustmeet.letters import contrary
from mustmeet.yards import bands


def strands_at(yard, drawing, end):
    order = list(drawing[1][bands(yard).index(end.lower())])
    if end.isupper():
        # A band isn't twisted: what comes first at its one end comes last at the other.
        order.reverse()
    return order


def points(yard, drawing):
    told = []
    for end in yard:
        for strand in strands_at(yard, drawing, end):
            told.append((strand[0], strand[1], end))
    return told


def corner_points(word, cord, place):
    ahead = (place - 1) % len(word)
    return ((cord, ahead, contrary(word[ahead])), (cord, place, word[place]))


def corners(yard, drawing):
    numbers = {}
    for number, point in enumerate(points(yard, drawing)):
        numbers[point] = number
    told = []
    for cord, word in enumerate(drawing[0]):
        for place in range(len(word)):
            pair = corner_points(word, cord, place)
            told.append((cord, place, numbers[pair[0]], numbers[pair[1]]))
    return told


def corners_meet(one, other):
    low = min(one[2], one[3])
    high = max(one[2], one[3])
    return (low < other[2] < high) != (low < other[3] < high)


def meetings(yard, drawing):
    told = []
    every = corners(yard, drawing)
    for number, one in enumerate(every):
        for other in every[number + 1:]:
            if corners_meet(one, other):
                told.append((one[0], one[1], other[0], other[1]))
    return told


def chord_starts(some):
    # For each point of these corners the one of both where, from the first point of all on, one comes by first.
    starts = {}
    for corner in some:
        first = min(corner[2], corner[3])
        starts[corner[2]] = first
        starts[corner[3]] = first
    return starts


def number_in(rising, point):
    low = 0
    high = len(rising) - 1
    while low < high:
        middle = (low + high) // 2
        if rising[middle] < point:
            low = middle + 1
        else:
            high = middle
    return low


def count_meetings(some):
    # At a corner's last point just those are met that were begun behind it and aren't ended yet.
    starts = chord_starts(some)
    begun = []
    many = 0
    for point in sorted(starts):
        if starts[point] == point:
            begun.append(point)
        else:
            number = number_in(begun, starts[point])
            begun.pop(number)
            many += len(begun) - number
    return many
