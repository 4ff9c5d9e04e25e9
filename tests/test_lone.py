import itertools
import unittest

from mustmeet.lone import is_lone, lone_loops
from mustmeet.meetings import meetings
from mustmeet.words import loop, shortest
from samples import YARDS, about, all_drawings, begun_at, shortest_words

BOUNDS = {1: 6, 2: 6, 3: 4, 4: 3}


def drawn_without_meetings(yard, word):
    return any(not meetings(yard, drawing) for drawing in all_drawings(yard, (word,)))


class TestIsLone(unittest.TestCase):
    def test_told_words(self):
        told = {("aA", "a"): True, ("aA", "A"): True, ("aA", "aa"): False, ("aA", ""): False, ("aA", "aA"): False,
                ("aA", "aaA"): True, ("abAB", "abAB"): True, ("abAB", "aabb"): False, ("abAB", "abab"): False,
                ("abAB", "aab"): True, ("abAB", "baabB"): True, ("abAB", "baB"): True, ("abAB", "aBbA"): False,
                ("aAbB", "ab"): True, ("aAbB", "aB"): False, ("aAbB", "babB"): True, ("aAbB", "bbabB"): False,
                ("aAbB", "abAB"): False,
                ("abcABC", "aBc"): True, ("abcABC", "abc"): False, ("aAbBcCdD", "abcd"): True,
                ("aAbBcCdD", "acbd"): False}
        for (yard, word), expected in told.items():
            self.assertIs(is_lone(yard, word), expected, (yard, word))

    def test_just_where_a_drawing_has_no_meetings(self):
        for yard, size in (("aA", 6), ("abAB", 5), ("aAbB", 5), ("abBA", 5), ("aBcAbC", 4), ("CcbaAB", 4),
                           ("abABcdCD", 3), ("abcdABCD", 3), ("aAbBcCdD", 3)):
            for length in range(1, size + 1):
                for word in shortest_words(yard, length):
                    self.assertIs(is_lone(yard, word), drawn_without_meetings(yard, word), (yard, word))

    def test_words_that_are_not_shortest(self):
        for yard in ("aA", "abAB", "aAbB", "aBcAbC"):
            for size in range(1, 5):
                for word in map("".join, itertools.product(yard, repeat=size)):
                    short = shortest(word)
                    self.assertIs(is_lone(yard, word), short != "" and is_lone(yard, short), (yard, word))

    def test_long_words(self):
        self.assertIs(is_lone("abAB", "aaaaaaaaaaab"), True)
        self.assertIs(is_lone("abAB", "aaaaaaaaaabb"), False)
        self.assertIs(is_lone("abABcdCD", "abABcdCDdcDC"), True)
        self.assertIs(is_lone("aA", "a" * 12), False)
        self.assertIs(is_lone("abAB", "ab" * 20 + "a"), True)


class TestLoneLoops(unittest.TestCase):
    def test_told_yards(self):
        self.assertEqual(lone_loops("aA", 6), ["A"])
        self.assertEqual(lone_loops("aAbB", 6), ["A", "B", "AB"])
        self.assertEqual(lone_loops("abBA", 6), ["A", "B", "Ab"])
        self.assertEqual(lone_loops("abAB", 6), [
            "A", "B", "AB", "Ab", "AAB", "AAb", "ABB", "Abb", "AAAB", "AAAb", "ABBB", "ABab", "Abbb", "AAAAB", "AAAAb",
            "AABAB", "AAbAb", "ABABB", "ABBBB", "AbAbb", "Abbbb", "AAAAAB", "AAAAAb", "ABBBBB", "Abbbbb"])

    def test_no_letters(self):
        for yard in YARDS:
            self.assertEqual(lone_loops(yard, 0), [])

    def test_one_letter(self):
        for yard in YARDS:
            self.assertEqual(lone_loops(yard, 1), sorted(end for end in yard if end.isupper()))

    def test_all_of_them_to_the_bounds(self):
        for yard in YARDS:
            size = BOUNDS[len(yard) // 2]
            found = {}
            for length in range(1, size + 1):
                for word in shortest_words(yard, length):
                    rounds = [begun_at(each, place) for each in (word, about(word)) for place in range(length)]
                    if word == min(rounds) and is_lone(yard, word):
                        found[word] = True
            expected = sorted(found, key=lambda word: (len(word), word))
            self.assertEqual(lone_loops(yard, size), expected)

    def test_shorter_ones_come_first(self):
        for yard in YARDS:
            size = BOUNDS[len(yard) // 2]
            every = lone_loops(yard, size)
            for length in range(size):
                self.assertEqual(lone_loops(yard, length), [word for word in every if len(word) <= length])

    def test_somewhat_beyond(self):
        for yard, length in (("aA", 12), ("abAB", 8), ("aAbB", 8), ("abcABC", 5), ("abABcdCD", 4)):
            every = lone_loops(yard, length)
            self.assertEqual(every, sorted(set(every), key=lambda word: (len(word), word)))
            for word in every:
                self.assertEqual(loop(word), word)
                self.assertIs(is_lone(yard, word), True)

    def test_kinds_and_a_new_list(self):
        told = lone_loops("abAB", 3)
        self.assertIs(type(told), list)
        self.assertEqual({type(word) for word in told}, {str})
        kept = list(told)
        told.clear()
        self.assertEqual(lone_loops("abAB", 3), kept)
        lone_loops("abAB", 0).append("more")
        self.assertEqual(lone_loops("abAB", 0), [])


if __name__ == "__main__":
    unittest.main()
