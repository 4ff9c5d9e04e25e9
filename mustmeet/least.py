"""The least numbers of meetings."""

from mustmeet.forced import forced
from mustmeet.words import root


def more_rounds(words):
    return sum([max(root(word)[1] - 1, 0) for word in words])


def least(yard, words):
    return len(forced(yard, words)) + more_rounds(words)


def own(yard, word):
    return least(yard, (word,))


def between(yard, one, other):
    return len([thing for thing in forced(yard, (one, other)) if thing[0] != thing[2]])
