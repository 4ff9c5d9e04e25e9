"""Cords that lie apart, filled up to as many unlike loops as there can be."""

from mustmeet.apart import lie_apart
from mustmeet.errors import NotApart
from mustmeet.pieces import Cut, all_joined, rims_along
from mustmeet.taut import taut
from mustmeet.words import by_size, loop, shortest


def joining_mouths(cut):
    # Both mouths of as few strips as join all regions of each piece: with these alone each piece is a plain floor.
    kept = {}
    for found in all_joined(cut):
        for mouth in found.values():
            if mouth is not None:
                kept[mouth] = True
                kept[cut.across[mouth]] = True
    return kept


def loops_between(cut):
    # The other strips are joined on one by one. The rims of each step lie within those of the next one, so none of
    # them meet; between two steps no more loops go than those rims, and in the end the rims are the cords' own.
    loops = {}
    kept = joining_mouths(cut)
    for mouth in cut.across:
        if mouth not in kept:
            kept[mouth] = True
            kept[cut.across[mouth]] = True
            for rim in rims_along(cut, kept):
                loops[loop(rim)] = True
    return [word for word in loops if word != ""]


def filled(yard, words):
    if not lie_apart(yard, words):
        raise NotApart()
    shorts = tuple([shortest(word) for word in words])
    return by_size(loops_between(Cut(yard, taut(yard, shorts))))
