"""Rows of deeds that lead from one drawing to another of the same cords."""

from mustmeet.deeds import done
from mustmeet.letters import contrary
from mustmeet.words import are_one, shortened, shortest
from mustmeet.yards import bands


def pairs_out(word):
    taken = []
    place = 0
    while place < len(word) - 1:
        if word[place + 1] == contrary(word[place]):
            taken.append((place, word[place]))
            word = word[:place] + word[place + 2:]
            place = max(place - 1, 0)
        else:
            place += 1
    return taken


def way_down(cord, word):
    deeds = [("out", cord, pair[0]) for pair in pairs_out(word)]
    size = len(shortened(word))
    while size > len(shortest(word)):
        # Turned once, a first letter stands behind the last one, its contrary.
        deeds.append(("turn", cord))
        deeds.append(("out", cord, size - 2))
        size -= 2
    return deeds


def way_up(cord, word):
    deeds = []
    left = shortened(word)
    for letter in reversed(left[:(len(left) - len(shortest(word))) // 2]):
        deeds.append(("in", cord, 0, contrary(letter), 0))
        deeds.append(("turn", cord))
    for pair in reversed(pairs_out(word)):
        deeds.append(("in", cord, pair[0], pair[1], 0))
    return deeds


def turns_between(one, other):
    turns = 0
    while one[turns:] + one[:turns] != other:
        turns += 1
    return turns


def word_road(cord, one, other):
    if one == other:
        return []
    turns = turns_between(shortest(one), shortest(other))
    return way_down(cord, one) + [("turn", cord)] * turns + way_up(cord, other)


def order_road(band, one, other):
    deeds = []
    order = list(one)
    for number, strand in enumerate(other):
        place = order.index(strand)
        for back in range(place, number, -1):
            deeds.append(("swap", band, back - 1))
        order.insert(number, order.pop(place))
    return deeds


def same_cords(one, other):
    return len(one) == len(other) and all([are_one(pair[0], pair[1]) for pair in zip(one, other)])


def road(yard, one, other):
    if not same_cords(one[0], other[0]):
        return None
    deeds = []
    for cord, word in enumerate(one[0]):
        deeds.extend(word_road(cord, word, other[0][cord]))
    between = done(yard, one, deeds)
    for number, band in enumerate(bands(yard)):
        deeds.extend(order_road(band, between[1][number], other[1][number]))
    return deeds
