"""Meetings that must be in any drawing of some cords."""

from mustmeet.letters import contrary, turned
from mustmeet.yards import goes_round


def corner_ends(word, place):
    return (contrary(word[place - 1]), word[place])


def meets_across(yard, one, i, other, j):
    ends = corner_ends(one, i)
    others = corner_ends(other, j)
    if others[0] in ends or others[1] in ends:
        return False
    return goes_round(yard, ends[0], others[0], ends[1]) != goes_round(yard, ends[0], others[1], ends[1])


def letters_shared(one, i, other, j):
    # It ends where the letters ahead are unlike: what goes round alike for ever does so backwards too.
    many = 0
    while one[(i + many) % len(one)] == other[(j + many) % len(other)]:
        many += 1
    return many


def letters_along(yard, one, i, other, j):
    # How many letters two strands share from just here on till they part crosswise; 0 where it isn't so.
    if one[i] != other[j] or one[i - 1] == other[j - 1]:
        return 0
    many = letters_shared(one, i, other, j)
    last = one[(i + many - 1) % len(one)]
    ahead = goes_round(yard, contrary(one[i - 1]), contrary(other[j - 1]), one[i])
    behind = goes_round(yard, one[(i + many) % len(one)], other[(j + many) % len(other)], contrary(last))
    return many if ahead == behind else 0


def forced_one_way(yard, words, one, other):
    c = one[0]
    i = one[1]
    d = other[0]
    j = other[1]
    told = []
    if meets_across(yard, words[c], i, words[d], j):
        told.append((c, i, d, j, 0, "across"))
    many = letters_along(yard, words[c], i, words[d], j)
    if many > 0:
        told.append((c, i, d, j, many, "along"))
    return told


def forced_against(yard, words, backs, one, other):
    c = one[0]
    i = one[1]
    d = other[0]
    j = other[1]
    # Against a word is along the word turned about.
    many = letters_along(yard, words[c], i, backs[d], len(backs[d]) - 1 - j)
    if many == 0:
        return []
    size = len(words[c])
    # One cord shares a stretch with itself as well from its other side: the lesser of both is told.
    if c == d and ((j - many + 1) % size, (i + many - 1) % size) < (i, j):
        return []
    return [(c, i, d, j, many, "against")]


def forced_at(yard, words, backs, one, other):
    told = []
    if one < other:
        told.extend(forced_one_way(yard, words, one, other))
    if one[0] <= other[0]:
        told.extend(forced_against(yard, words, backs, one, other))
    return told


def strands_of(words):
    told = []
    for cord, word in enumerate(words):
        for place in range(len(word)):
            told.append((cord, place))
    return told


def forced(yard, words):
    told = []
    backs = [turned(word) for word in words]
    every = strands_of(words)
    for one in every:
        for other in every:
            told.extend(forced_at(yard, words, backs, one, other))
    return sorted(told)


def is_forced(yard, words, thing):
    one = (thing[0], thing[1])
    other = (thing[2], thing[3])
    every = strands_of(words)
    if one not in every or other not in every:
        return False
    return thing in forced_at(yard, words, [turned(word) for word in words], one, other)
