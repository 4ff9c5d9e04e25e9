"""Deeds that turn a drawing, done one behind the other."""

from mustmeet.errors import NoDeed
from mustmeet.letters import contrary
from mustmeet.yards import bands


def renumber(orders, cord, places):
    # A strand whose new place is None is taken out.
    for band in list(orders):
        kept = []
        for strand in orders[band]:
            if strand[0] != cord:
                kept.append(strand)
            elif places[strand[1]] is not None:
                kept.append((cord, places[strand[1]]))
        orders[band] = kept


def do_swap(orders, band, number):
    if band not in orders or not 0 <= number < len(orders[band]) - 1:
        return False
    order = orders[band]
    strand = order[number]
    order[number] = order[number + 1]
    order[number + 1] = strand
    return True


def do_out(words, orders, cord, place):
    word = words[cord]
    if not 0 <= place < len(word) - 1 or word[place + 1] != contrary(word[place]):
        return False
    words[cord] = word[:place] + word[place + 2:]
    renumber(orders, cord, list(range(place)) + [None, None] + list(range(place, len(word) - 2)))
    return True


def do_in(words, orders, cord, place, letter, number):
    word = words[cord]
    order = orders[letter.lower()]
    if not 0 <= place <= len(word) or not 0 <= number <= len(order):
        return False
    words[cord] = word[:place] + letter + contrary(letter) + word[place:]
    renumber(orders, cord, list(range(place)) + list(range(place + 2, len(word) + 2)))
    orders[letter.lower()].insert(number, (cord, place + 1))
    orders[letter.lower()].insert(number, (cord, place))
    return True


def do_turn(words, orders, cord):
    word = words[cord]
    words[cord] = word[1:] + word[:1]
    renumber(orders, cord, [len(word) - 1] + list(range(len(word) - 1)))
    return True


def do_deed(yard, words, orders, deed):
    if deed[0] == "swap":
        return do_swap(orders, deed[1], deed[2])
    if not 0 <= deed[1] < len(words):
        return False
    if deed[0] == "out":
        return do_out(words, orders, deed[1], deed[2])
    if deed[0] == "turn":
        return do_turn(words, orders, deed[1])
    # A text of several letters, or of none, stands in the yard's text too, but is no letter of it.
    if deed[0] == "in" and deed[3] in list(yard):
        return do_in(words, orders, deed[1], deed[2], deed[3], deed[4])
    return False


def done(yard, drawing, deeds):
    words = list(drawing[0])
    orders = {}
    for band, order in zip(bands(yard), drawing[1]):
        orders[band] = list(order)
    for number, deed in enumerate(deeds):
        if not do_deed(yard, words, orders, deed):
            raise NoDeed(number)
    return (tuple(words), tuple([tuple(orders[band]) for band in bands(yard)]))
