"""Cords that lie apart, how many unlike loops of a yard do so at most, and so many of them."""

from mustmeet.least import least
from mustmeet.rims import handles, rims
from mustmeet.words import by_size, loop, shortest
from mustmeet.yards import bands, within


def lie_apart(yard, words):
    shorts = tuple([shortest(word) for word in words])
    # All together needn't meet just where each is lone and no two of them must meet.
    return "" not in shorts and least(yard, shorts) == 0


def most(yard):
    return 2 * len(bands(yard)) - 1 - handles(yard)


def full_set(yard):
    names = bands(yard)
    loops = {}
    for count in range(1, len(names) + 1):
        for rim in rims(within(yard, names[:count])):
            loops[loop(rim)] = True
    return by_size(loops)
