"""Yards, words and drawings that several tests use."""

import random

YARDS = ("aA", "Aa", "zZ", "abAB", "aAbB", "abBA", "BAba", "zaZA", "abcABC", "cabCAB", "aBcAbC", "CcbaAB",
         "DaCbAcBd", "abABcdCD", "abcdABCD", "aAbBcCdD")


def names_of(yard):
    return sorted(end for end in yard if end in "abcdefghijklmnopqrstuvwxyz")


def strands_by_band(yard, words):
    strands = {name: [] for name in names_of(yard)}
    for cord, word in enumerate(words):
        for place, letter in enumerate(word):
            strands[letter.lower()].append((cord, place))
    return [strands[name] for name in names_of(yard)]


def some_drawings(yard, how_many):
    """Drawings by chance, but the same ones each time."""
    chance = random.Random(yard)
    drawings = []
    for number in range(how_many):
        words = tuple("".join(chance.choices(yard, k=chance.randrange(7))) for cord in range(chance.randrange(5)))
        orders = tuple(tuple(chance.sample(strands, len(strands))) for strands in strands_by_band(yard, words))
        drawings.append((words, orders))
    return drawings


def check_drawing_kind(case, drawing):
    case.assertIs(type(drawing), tuple)
    case.assertEqual(len(drawing), 2)
    case.assertIs(type(drawing[0]), tuple)
    case.assertIs(type(drawing[1]), tuple)
    for word in drawing[0]:
        case.assertIs(type(word), str)
    for order in drawing[1]:
        case.assertIs(type(order), tuple)
        for strand in order:
            case.assertIs(type(strand), tuple)
            case.assertEqual([type(part) for part in strand], [int, int])
