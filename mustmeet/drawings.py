"""Drawings looked at, and the plain drawing of some words."""

from mustmeet.errors import NoDrawing
from mustmeet.yards import bands, foreign_sign


def strands_in(words, band):
    found = []
    for cord, word in enumerate(words):
        for place, letter in enumerate(word):
            if letter.lower() == band:
                found.append((cord, place))
    return found


def look_words(yard, words):
    for number, word in enumerate(words):
        if foreign_sign(yard, word) is not None:
            raise NoDrawing("words", number)


def look_orders(yard, words, orders):
    names = bands(yard)
    if len(orders) != len(names):
        raise NoDrawing("bands", len(orders))
    for number, band in enumerate(names):
        # Strands are found in rising order, so an order with each of them once is the same when sorted.
        if sorted(orders[number]) != strands_in(words, band):
            raise NoDrawing("strands", number)


def look_drawing(yard, drawing):
    look_words(yard, drawing[0])
    look_orders(yard, drawing[0], drawing[1])
    return True


def plain(yard, words):
    return (tuple(words), tuple([tuple(strands_in(words, band)) for band in bands(yard)]))
