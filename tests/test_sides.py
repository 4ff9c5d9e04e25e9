import itertools
import random
import unittest

from mustmeet.deeds import done
from mustmeet.drawings import plain
from mustmeet.meetings import meetings, points
from mustmeet.sides import sides
from mustmeet.taut import taut
from samples import YARDS, about, all_drawings, begun_at, shortest_words, some_drawing, some_drawings


def slow_sides(yard, drawing, c, d):
    """Point 37 read slowly: one goes round from where the corner of c comes in and looks what comes first."""
    every = points(yard, drawing)
    total = 0
    for one, i, other, j in meetings(yard, drawing):
        if {one, other} == {c, d}:
            if one == d:
                i, j = j, i
            word, other_word = drawing[0][c], drawing[0][d]
            ahead, other_ahead = (i - 1) % len(word), (j - 1) % len(other_word)
            start = every.index((c, ahead, word[ahead].swapcase()))
            going = every[start:] + every[:start]
            comes_in = going.index((d, other_ahead, other_word[other_ahead].swapcase()))
            total += 1 if comes_in < going.index((c, i, word[i])) else -1
    return total


class TestSides(unittest.TestCase):
    def test_told_drawings(self):
        told = {("abAB", ("a", "b"), 0, 1): 1, ("abAB", ("a", "b"), 1, 0): -1, ("abAB", ("A", "b"), 0, 1): -1,
                ("abAB", ("a", "B"), 0, 1): -1, ("abAB", ("A", "B"), 0, 1): 1, ("abAB", ("aaa", "bb"), 0, 1): 6,
                ("abAB", ("a", "a"), 0, 1): 0, ("aAbB", ("aB", "ab"), 0, 1): 0, ("abBA", ("a", "b"), 1, 0): 0,
                ("abAB", ("ab", "aB"), 0, 1): -2, ("baBA", ("a", "b"), 0, 1): -1, ("aA", ("a", "aa"), 0, 1): 0,
                ("abcABC", ("c", "", "a"), 0, 2): -1, ("abcABC", ("c", "", "a"), 2, 0): 1}
        for (yard, words, c, d), expected in told.items():
            drawing = plain(yard, words)
            self.assertEqual(sides(yard, drawing, c, d), expected, (yard, words, c, d))
            self.assertIs(type(sides(yard, drawing, c, d)), int)

    def test_drawings_by_chance(self):
        for yard in YARDS:
            for drawing in some_drawings(yard, 40):
                for c, d in itertools.permutations(range(len(drawing[0])), 2):
                    told = sides(yard, drawing, c, d)
                    self.assertEqual(told, slow_sides(yard, drawing, c, d), (yard, drawing, c, d))
                    self.assertEqual(sides(yard, drawing, d, c), -told)

    def test_the_same_in_all_drawings(self):
        for yard, pairs in (("abAB", (("aab", "bA"), ("abAB", "ab"), ("abA", "aB"), ("aabb", "b"), ("bAa", "aab"))),
                            ("aAbB", (("aab", "bA"), ("abAB", "aB"))), ("abcABC", (("abC", "cba"), ("aabc", "Bac"))),
                            ("aBcAbC", (("abC", "cba"), ("aa", "ccB"))), ("abABcdCD", (("abc", "dcb"),))):
            for words in pairs:
                told = {sides(yard, drawing, 0, 1) for drawing in all_drawings(yard, words)}
                self.assertEqual(len(told), 1, (yard, words))

    def test_the_same_however_they_are_drawn_about(self):
        for yard in YARDS:
            chance = random.Random("about " + yard)
            for number in range(20):
                words = tuple("".join(chance.choices(yard, k=chance.randrange(1, 6))) for cord in range(3))
                drawing = some_drawing(chance, yard, words)
                expected = sides(yard, drawing, 0, 2)
                for step in range(4):
                    cord = chance.choice((0, 2))
                    place = chance.randrange(len(drawing[0][cord]) + 1)
                    drawing = done(yard, drawing, [("in", cord, place, chance.choice(yard), 0), ("turn", cord)])
                    drawing = some_drawing(chance, yard, drawing[0])
                    self.assertEqual(sides(yard, drawing, 0, 2), expected)

    def test_turned_about(self):
        for yard in ("abAB", "aBcAbC", "abABcdCD"):
            for one, other in itertools.product(shortest_words(yard, 2)[:12], repeat=2):
                told = sides(yard, taut(yard, (one, other)), 0, 1)
                self.assertEqual(sides(yard, taut(yard, (about(one), other)), 0, 1), -told)
                self.assertEqual(sides(yard, taut(yard, (one, about(other))), 0, 1), -told)
                self.assertEqual(sides(yard, taut(yard, (begun_at(one, 1), other)), 0, 1), told)

    def test_words_without_letters(self):
        for yard in YARDS:
            for words in (("", ""), ("", yard[0]), (yard[0], "")):
                self.assertEqual(sides(yard, plain(yard, words), 0, 1), 0)

    def test_other_cords_and_own_meetings_are_left_out(self):
        drawing = plain("abAB", ("aabb", "ab", "abAAB", "bb"))
        for c, d in itertools.permutations(range(4), 2):
            words = (drawing[0][c], drawing[0][d])
            self.assertEqual(sides("abAB", drawing, c, d), sides("abAB", plain("abAB", words), 0, 1))

    def test_nothing_handed_in_is_changed(self):
        drawing = plain("abAB", ("aab", "b"))
        kept = plain("abAB", ("aab", "b"))
        for number in range(2):
            self.assertEqual(sides("abAB", drawing, 0, 1), 2)
        self.assertEqual(drawing, kept)


if __name__ == "__main__":
    unittest.main()
