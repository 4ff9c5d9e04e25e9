"""The least numbers of meetings."""

from mustmeet.meetings import corners, count_meetings
from mustmeet.taut import taut

# A taut drawing has just as many meetings as must be. They are counted sooner than all forced ones are found, and
# words that were wound along others may be some thousand letters long.


def least(yard, words):
    return count_meetings(corners(yard, taut(yard, words)))


def own(yard, word):
    return least(yard, (word,))


def between(yard, one, other):
    every = corners(yard, taut(yard, (one, other)))
    ones = every[:len(one)]
    others = every[len(one):]
    return count_meetings(every) - count_meetings(ones) - count_meetings(others)
