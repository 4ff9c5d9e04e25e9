"""Yards, words and drawings that several tests use."""

import itertools
import random

from mustmeet.forced import forced

YARDS = ("aA", "Aa", "zZ", "abAB", "aAbB", "abBA", "BAba", "zaZA", "abcABC", "cabCAB", "aBcAbC", "CcbaAB",
         "DaCbAcBd", "abABcdCD", "abcdABCD", "aAbBcCdD")
SOME_LETTERS = "abcABCzZ"


def names_of(yard):
    return sorted(end for end in yard if end in "abcdefghijklmnopqrstuvwxyz")


def strands_by_band(yard, words):
    strands = {name: [] for name in names_of(yard)}
    for cord, word in enumerate(words):
        for place, letter in enumerate(word):
            strands[letter.lower()].append((cord, place))
    return [strands[name] for name in names_of(yard)]


def some_drawings(yard, how_many):
    """Drawings by chance, but the same ones each time."""
    chance = random.Random(yard)
    drawings = []
    for number in range(how_many):
        words = tuple("".join(chance.choices(yard, k=chance.randrange(7))) for cord in range(chance.randrange(5)))
        drawings.append(some_drawing(chance, yard, words))
    return drawings


def some_drawing(chance, yard, words):
    orders = tuple(tuple(chance.sample(strands, len(strands))) for strands in strands_by_band(yard, words))
    return (tuple(words), orders)


def all_drawings(yard, words):
    for orders in itertools.product(*[itertools.permutations(strands) for strands in strands_by_band(yard, words)]):
        yield (tuple(words), orders)


def about(word):
    return word[::-1].swapcase()


def begun_at(word, place):
    return word[place:] + word[:place]


def is_shortest(word):
    return all(word[place - 1] != word[place].swapcase() for place in range(len(word)))


def shortest_words(yard, size):
    """All words of just so many letters that are their own shortest."""
    return [word for word in map("".join, itertools.product(yard, repeat=size)) if is_shortest(word)]


def chance_shortest(chance, yard, size):
    word = "".join(chance.choices(yard, k=size))
    while not is_shortest(word):
        word = "".join(chance.choices(yard, k=size))
    return word


def rounds(word):
    """How often a shortest word goes round its root."""
    return max(times for times in range(1, len(word) + 1) if word[:len(word) // times] * times == word)


def fewest(yard, words):
    """The least number of meetings, by all forced meetings."""
    return len(forced(yard, words)) + sum(rounds(word) - 1 for word in words)


def some_cords(yard, how_many, letters=24):
    """Tuples of one to four shortest words by chance, some of them one, turned about or gone round more than once."""
    chance = random.Random("cords " + yard)
    told = []
    for number in range(how_many):
        words = []
        for cord in range(chance.randrange(1, 5)):
            word = chance_shortest(chance, yard, chance.randrange(1, 7))
            if words and chance.random() < 0.4:
                word = begun_at(chance.choice(words), chance.randrange(2))
            if chance.random() < 0.3:
                word = word * chance.randrange(1, 4)
            words.append(about(word) if chance.random() < 0.3 else word)
        while sum(map(len, words)) > letters or max(map(len, words)) > 12:
            words.remove(max(words, key=len))
            words = words or [yard[0]]
        told.append(tuple(words))
    return told


def some_term(chance, names, depth):
    kinds = ["walk", "walk"] + ["name"] * 2 * bool(names)
    if depth > 1:
        kinds += ["then", "then", "back", "again", "for"]
    kind = chance.choice(kinds)
    if kind == "walk":
        return ("walk", "".join(chance.choices(SOME_LETTERS, k=chance.randrange(7))))
    if kind == "name":
        return ("name", chance.choice(names))
    if kind == "back":
        return ("back", some_term(chance, names, depth - 1))
    if kind == "again":
        return ("again", chance.randrange(7), some_term(chance, names, depth - 1))
    parts = (some_term(chance, names, depth - 1), some_term(chance, names, depth - 1))
    if kind == "then":
        return ("then",) + parts
    return ("for", chance.choice("abcz")) + parts


def some_program(chance):
    names = []
    rows = []
    for name in chance.sample(["a", "walk", "name", "one", "ring", "longer", "cord", "z"], chance.randrange(1, 9)):
        rows.append((name, some_term(chance, names, chance.randrange(1, 6))))
        names.append(name)
    return tuple(rows)


def check_drawing_kind(case, drawing):
    case.assertIs(type(drawing), tuple)
    case.assertEqual(len(drawing), 2)
    case.assertIs(type(drawing[0]), tuple)
    case.assertIs(type(drawing[1]), tuple)
    for word in drawing[0]:
        case.assertIs(type(word), str)
    for order in drawing[1]:
        case.assertIs(type(order), tuple)
        for strand in order:
            case.assertIs(type(strand), tuple)
            case.assertEqual([type(part) for part in strand], [int, int])
