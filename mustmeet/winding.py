"""Words wound along lone cords."""

from mustmeet.errors import NotLone
from mustmeet.letters import turned
from mustmeet.lone import is_lone
from mustmeet.meetings import corners, corners_meet
from mustmeet.taut import taut
from mustmeet.words import ring, shortest


def met_along(corner, others, many):
    # The corners of the other cord that this one meets, in order: where each stands, and if it leaves to the side
    # that comes when one goes round on from where this one goes out. There are so many points round the rim.
    reach = (corner[3] - corner[2]) % many
    met = []
    for other in others:
        if corners_meet(corner, other):
            comes_in = (other[2] - corner[2]) % many
            goes_out = (other[3] - corner[2]) % many
            met.append((min(comes_in, goes_out), other[1], goes_out > reach))
    return [(each[1], each[2]) for each in sorted(met)]


def put_in(along, times, place, leaves):
    begun = along[place:] + along[:place]
    if leaves != (times > 0):
        begun = turned(begun)
    return begun * abs(times)


def wound_lone(yard, along, times, word):
    short = shortest(word)
    if short == "" or times == 0:
        return ring(short)
    every = corners(yard, taut(yard, (short, along)))
    others = [corner for corner in every if corner[0] == 1]
    parts = []
    for corner in every[:len(short)]:
        for place, leaves in met_along(corner, others, 2 * len(every)):
            parts.append(put_in(along, times, place, leaves))
        parts.append(short[corner[1]])
    return ring("".join(parts))


def look_lone(yard, along):
    if not is_lone(yard, along):
        raise NotLone()


def wound(yard, along, times, word):
    look_lone(yard, along)
    return wound_lone(yard, along, times, word)


def wound_all(yard, row, word):
    for pair in row:
        look_lone(yard, pair[0])
    told = ring(word)
    for pair in row:
        told = wound_lone(yard, pair[0], pair[1], told)
    return told


def undone(row):
    return tuple([(pair[0], -pair[1]) for pair in reversed(row)])
