"""Lone cords: those that needn't meet themselves."""

from mustmeet.least import own
from mustmeet.letters import contrary
from mustmeet.words import loop, shortest


def is_lone(yard, word):
    short = shortest(word)
    return short != "" and own(yard, short) == 0


def may_follow(word, letter):
    # A loop is the least of its words: no letter of it, and no letter's contrary, is less than its first one.
    return word == "" or (letter != contrary(word[-1]) and word[0] <= min(letter, contrary(letter)))


def one_longer(yard, words):
    longer = []
    for word in words:
        longer.extend([word + letter for letter in yard if may_follow(word, letter)])
    return longer


def lone_loops(yard, length):
    told = []
    words = [""]
    for size in range(length):
        words = one_longer(yard, words)
        told.extend(sorted([word for word in words if loop(word) == word and is_lone(yard, word)]))
    return told
