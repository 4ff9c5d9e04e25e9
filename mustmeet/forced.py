"""Meetings that must be in any drawing of some cords."""

from mustmeet.letters import contrary, turned
from mustmeet.yards import goes_round


def corner_ends(word, place):
    return (contrary(word[place - 1]), word[place])


def meets_across(yard, one, i, other, j):
    ends = corner_ends(one, i)
    others = corner_ends(other, j)
    if others[0] in ends or others[1] in ends:
        return False
    return goes_round(yard, ends[0], others[0], ends[1]) != goes_round(yard, ends[0], others[1], ends[1])


def letters_shared(one, i, other, j):
    # It ends where the letters ahead are unlike: what goes round alike for ever does so backwards too.
    many = 0
    while one[(i + many) % len(one)] == other[(j + many) % len(other)]:
        many += 1
    return many


def letters_along(yard, one, i, other, j):
    # How many letters two strands share from just here on till they part crosswise; 0 where it isn't so.
    if one[i] != other[j] or one[i - 1] == other[j - 1]:
        return 0
    many = letters_shared(one, i, other, j)
    last = one[(i + many - 1) % len(one)]
    ahead = goes_round(yard, contrary(one[i - 1]), contrary(other[j - 1]), one[i])
    behind = goes_round(yard, one[(i + many) % len(one)], other[(j + many) % len(other)], contrary(last))
    return many if ahead == behind else 0


def forced_onward(yard, words, one, other):
    word = words[one[0]]
    other_word = words[other[0]]
    told = []
    if meets_across(yard, word, one[1], other_word, other[1]):
        told.append(one + other + (0, "across"))
    many = letters_along(yard, word, one[1], other_word, other[1])
    if many > 0:
        told.append(one + other + (many, "along"))
    return told


def forced_against(yard, words, backs, one, other):
    word = words[one[0]]
    # Against a word is along the word turned about.
    back = backs[other[0]]
    many = letters_along(yard, word, one[1], back, len(back) - 1 - other[1])
    # One cord shares a stretch with itself as well from its other side: the lesser of both is told.
    turn = ((other[1] - many + 1) % len(word), (one[1] + many - 1) % len(word))
    if many == 0 or (one[0] == other[0] and turn < (one[1], other[1])):
        return []
    return [one + other + (many, "against")]


def forced_at(yard, words, backs, one, other):
    # The strands `one` and `other` are pairs of a cord's number and a place.
    told = []
    if one < other:
        told.extend(forced_onward(yard, words, one, other))
    if one[0] <= other[0]:
        told.extend(forced_against(yard, words, backs, one, other))
    return told


def strands_of(words):
    told = []
    for cord, word in enumerate(words):
        for place in range(len(word)):
            told.append((cord, place))
    return told


def forced(yard, words):
    told = []
    backs = [turned(word) for word in words]
    every = strands_of(words)
    for one in every:
        for other in every:
            told.extend(forced_at(yard, words, backs, one, other))
    return sorted(told)


def is_strand(words, cord, place):
    return 0 <= cord < len(words) and 0 <= place < len(words[cord])


def is_forced(yard, words, thing):
    if not is_strand(words, thing[0], thing[1]) or not is_strand(words, thing[2], thing[3]):
        return False
    backs = [turned(word) for word in words]
    return thing in forced_at(yard, words, backs, (thing[0], thing[1]), (thing[2], thing[3]))
