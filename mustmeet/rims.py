"""The rims of a yard and how many handles it has."""

from mustmeet.letters import contrary
from mustmeet.words import ring
from mustmeet.yards import bands


def next_end(yard, end):
    return yard[(yard.index(end) + 1) % len(yard)]


def rim_behind(yard, start):
    word = ""
    place = start
    while word == "" or place != start:
        passed = next_end(yard, place)
        word += passed
        place = contrary(passed)
    return word


def rims(yard):
    seen = {}
    told = []
    for end in yard:
        if end not in seen:
            word = rim_behind(yard, end)
            # Where a rim is gone along by a letter, it is next behind that letter's contrary.
            for letter in word:
                seen[contrary(letter)] = True
            told.append(ring(word))
    return sorted(told)


def handles(yard):
    return (len(bands(yard)) + 1 - len(rims(yard))) // 2
