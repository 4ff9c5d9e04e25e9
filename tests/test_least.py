import itertools
import random
import unittest

from mustmeet.deeds import done
from mustmeet.forced import forced
from mustmeet.least import between, least, own
from mustmeet.meetings import meetings
from samples import (YARDS, about, all_drawings, begun_at, fewest, rounds, shortest_words, some_cords, some_drawing)


class TestLeast(unittest.TestCase):
    def test_no_words(self):
        for yard in YARDS:
            told = least(yard, ())
            self.assertEqual(told, 0)
            self.assertIs(type(told), int)

    def test_told_cords(self):
        told = {
            ("aA", ("a",)): 0, ("aA", ("aa",)): 1, ("aA", ("aaaa",)): 3, ("aA", ("aa", "AAA", "a")): 3,
            ("abAB", ("a", "b")): 1, ("abAB", ("ab",)): 0, ("abAB", ("ab", "aB")): 2, ("abAB", ("abAB", "a", "A")): 0,
            ("abAB", ("aabb",)): 1, ("abAB", ("abab",)): 1, ("abAB", ("aab", "b")): 2, ("abAB", ("aaa", "bb")): 9,
            ("aAbB", ("ab",)): 0, ("aAbB", ("aB",)): 1, ("aAbB", ("aBaB",)): 5, ("aAbB", ("a", "b", "ab")): 0,
        }
        for (yard, words), expected in told.items():
            self.assertEqual(least(yard, words), expected, (yard, words))

    def test_no_drawing_has_fewer_and_one_has_just_so_many(self):
        cases = [("aA", words) for words in (("aaaaaa",), ("aaa", "AA"), ("a", "A", "aa"))]
        for yard in ("abAB", "aAbB", "abBA"):
            cases += [(yard, (word,)) for size in range(1, 6) for word in shortest_words(yard, size)
                      if word == min(begun_at(word, place) for place in range(size))]
            cases += [(yard, pair) for pair in itertools.product(shortest_words(yard, 2), repeat=2)]
        for yard in ("aBcAbC", "CcbaAB"):
            cases += [(yard, words) for words in (("abc",), ("abAc",), ("abC", "cba"), ("aab", "c"), ("abcabc",))]
        cases += [("abABcdCD", ("abcd", "ac")), ("abcdABCD", ("acbd", "ab")), ("aAbBcCdD", ("aBcD", "Ab"))]
        for yard, words in cases:
            counts = [len(meetings(yard, drawing)) for drawing in all_drawings(yard, words)]
            self.assertEqual(min(counts), least(yard, words), (yard, words))

    def test_no_drawing_drawn_about_has_fewer(self):
        chance = random.Random(3)
        for yard in YARDS:
            for words in some_cords(yard, 10, 8):
                drawing = some_drawing(chance, yard, words)
                for number in range(10):
                    cord = chance.randrange(len(words))
                    letter = chance.choice(yard)
                    drawing = done(yard, drawing, [("in", cord, chance.randrange(len(words[cord]) + 1), letter, 0),
                                                   ("turn", cord)])
                    drawing = some_drawing(chance, yard, drawing[0])
                    self.assertGreaterEqual(len(meetings(yard, drawing)), least(yard, words))

    def test_forced_and_rounds(self):
        for yard in YARDS:
            for words in some_cords(yard, 20):
                self.assertEqual(least(yard, words), fewest(yard, words))

    def test_own_and_between_add_up(self):
        for yard in YARDS:
            for words in some_cords(yard, 20):
                parts = sum(own(yard, word) for word in words)
                parts += sum(between(yard, one, other) for one, other in itertools.combinations(words, 2))
                self.assertEqual(least(yard, words), parts, (yard, words))

    def test_the_same_however_a_word_is_begun_or_turned_about(self):
        for yard in YARDS:
            for words in some_cords(yard, 10, 10):
                expected = least(yard, words)
                for place in range(len(words[0])):
                    self.assertEqual(least(yard, (begun_at(words[0], place),) + words[1:]), expected)
                self.assertEqual(least(yard, (about(words[0]),) + words[1:]), expected)
                self.assertEqual(least(yard, words[::-1]), expected)


class TestOwn(unittest.TestCase):
    def test_told_cords(self):
        told = {("aA", "a"): 0, ("aA", "A"): 0, ("aA", "aaa"): 2, ("abAB", "abAB"): 0, ("abAB", "aabb"): 1,
                ("aAbB", "aB"): 1, ("aAbB", "abAB"): 3, ("abBA", "ab"): 1, ("abcABC", "abc"): 1,
                ("abcABC", "aBc"): 0, ("aAbB", "aabb"): 2}
        for (yard, word), expected in told.items():
            self.assertEqual(own(yard, word), expected, (yard, word))
            self.assertIs(type(own(yard, word)), int)

    def test_is_the_least_of_it_alone(self):
        for yard in YARDS:
            for words in some_cords(yard, 10):
                self.assertEqual(own(yard, words[0]), least(yard, (words[0],)))

    def test_rounds(self):
        for yard in YARDS:
            for size in range(1, 4):
                for word in shortest_words(yard, size)[:30]:
                    if rounds(word) == 1:
                        for times in range(1, 5):
                            expected = times * times * own(yard, word) + times - 1
                            self.assertEqual(own(yard, word * times), expected, (yard, word, times))


class TestBetween(unittest.TestCase):
    def test_told_cords(self):
        told = {("aA", "a", "a"): 0, ("aA", "aa", "A"): 0, ("abAB", "a", "b"): 1, ("abAB", "aaa", "bb"): 6,
                ("abAB", "ab", "aB"): 2, ("aAbB", "a", "b"): 0, ("aAbB", "aB", "aB"): 2, ("aAbB", "a", "aB"): 0,
                ("abAB", "abAB", "a"): 0, ("abcABC", "a", "bc"): 2}
        for (yard, one, other), expected in told.items():
            self.assertEqual(between(yard, one, other), expected, (yard, one, other))
            self.assertIs(type(between(yard, one, other)), int)

    def test_those_of_two_cords_alone(self):
        for yard in YARDS:
            for words in some_cords(yard, 20):
                one, other = words[0], words[-1]
                told = [thing for thing in forced(yard, (one, other)) if (thing[0], thing[2]) == (0, 1)]
                self.assertEqual(between(yard, one, other), len(told))
                self.assertEqual(between(yard, other, one), len(told))
                self.assertEqual(between(yard, one, about(other)), len(told))

    def test_rounds(self):
        for yard in YARDS:
            for words in some_cords(yard, 8, 8):
                expected = between(yard, words[0], words[-1])
                self.assertEqual(between(yard, words[0] * 2, words[-1] * 3), 6 * expected)

    def test_one_and_itself(self):
        for yard in YARDS:
            for words in some_cords(yard, 8, 8):
                self.assertEqual(between(yard, words[0], words[0]), 2 * len(forced(yard, (words[0],))))


if __name__ == "__main__":
    unittest.main()
