import itertools
import random
import unittest

from mustmeet.drawings import look_drawing
from mustmeet.meetings import meetings
from mustmeet.taut import taut
from samples import (YARDS, about, all_drawings, begun_at, chance_shortest, check_drawing_kind, fewest,
                     shortest_words, some_cords, some_drawing)


class TestTaut(unittest.TestCase):
    def is_taut(self, yard, words):
        drawing = taut(yard, words)
        check_drawing_kind(self, drawing)
        self.assertIs(look_drawing(yard, drawing), True)
        self.assertEqual(drawing[0], words)
        self.assertEqual(len(meetings(yard, drawing)), fewest(yard, words), (yard, words))
        self.assertEqual(taut(yard, words), drawing)
        return drawing

    def test_no_cords(self):
        for yard in YARDS:
            self.assertEqual(self.is_taut(yard, ()), ((), ((),) * (len(yard) // 2)))

    def test_told_cords(self):
        self.assertEqual(self.is_taut("aA", ("a",)), (("a",), (((0, 0),),)))
        for yard, words, many in (("aA", ("aaaa",), 3), ("aA", ("aa", "AAA", "a"), 3), ("abAB", ("a", "b"), 1),
                                  ("abAB", ("abAB", "a", "A"), 0), ("abAB", ("aaa", "bb"), 9), ("aAbB", ("aBaB",), 5),
                                  ("aAbB", ("a", "b", "ab"), 0), ("abAB", ("aab", "baa", "BAA"), 0)):
            self.assertEqual(len(meetings(yard, self.is_taut(yard, words))), many)

    def test_every_short_cord(self):
        for yard, size in (("aA", 12), ("abAB", 7), ("aAbB", 7), ("abBA", 6), ("aBcAbC", 4), ("CcbaAB", 4),
                           ("abABcdCD", 3), ("aAbBcCdD", 3)):
            for length in range(1, size + 1):
                for word in shortest_words(yard, length):
                    if word == min(begun_at(word, place) for place in range(length)):
                        self.is_taut(yard, (word,))

    def test_every_two_short_cords(self):
        for yard, size in (("abAB", 3), ("aAbB", 3), ("BAba", 3), ("aBcAbC", 2), ("DaCbAcBd", 2)):
            words = list(itertools.chain(*[shortest_words(yard, length) for length in range(1, size + 1)]))
            for pair in itertools.product(words, repeat=2):
                self.is_taut(yard, pair)

    def test_cords_by_chance(self):
        for yard in YARDS:
            for words in some_cords(yard, 60):
                self.is_taut(yard, words)

    def test_the_longest(self):
        chance = random.Random(23)
        for yard in YARDS:
            for sizes in ((12, 12), (6, 6, 6, 6), (12, 4, 4, 4), (12, 10, 1, 1), (12,)):
                self.is_taut(yard, tuple(chance_shortest(chance, yard, size) for size in sizes))

    def test_cords_that_are_one_and_roots_gone_round(self):
        chance = random.Random(7)
        for yard in YARDS:
            for size in (1, 2, 3):
                word = chance_shortest(chance, yard, size)
                for times in itertools.product((1, 2, 3), repeat=3):
                    words = (begun_at(word, size - 1) * times[0], about(word) * times[1], word * times[2])
                    self.is_taut(yard, words)
                    self.is_taut(yard, words[1:] + (chance_shortest(chance, yard, 2),))

    def test_no_drawing_has_fewer(self):
        for yard, words in (("abAB", ("aabb", "ab")), ("aAbB", ("abAB", "aB")), ("abBA", ("abab", "a")),
                            ("aA", ("aaaa", "AA")), ("aBcAbC", ("abCa", "cbA")), ("abABcdCD", ("acBd", "cdac")),
                            ("abAB", ("aab", "aab")), ("aAbBcCdD", ("aCbD", "dcBa"))):
            many = len(meetings(yard, self.is_taut(yard, words)))
            self.assertEqual(min(len(meetings(yard, drawing)) for drawing in all_drawings(yard, words)), many)

    def test_no_drawing_by_chance_has_fewer(self):
        chance = random.Random(22)
        for yard in YARDS:
            for words in some_cords(yard, 12):
                many = len(meetings(yard, taut(yard, words)))
                for number in range(15):
                    self.assertGreaterEqual(len(meetings(yard, some_drawing(chance, yard, words))), many)

    def test_no_swap_makes_fewer(self):
        for yard in YARDS:
            for words in some_cords(yard, 6, 12):
                drawing = taut(yard, words)
                many = len(meetings(yard, drawing))
                for band, order in enumerate(drawing[1]):
                    for number in range(len(order) - 1):
                        swapped = order[:number] + order[number + 1:number + 2] + order[number:number + 1]
                        orders = drawing[1][:band] + (swapped + order[number + 2:],) + drawing[1][band + 1:]
                        self.assertGreaterEqual(len(meetings(yard, (words, orders))), many)

    def test_words_that_were_told_may_be_of_any_size(self):
        chance = random.Random(60)
        for yard in ("abAB", "aAbB", "aBcAbC", "abABcdCD"):
            self.is_taut(yard, (chance_shortest(chance, yard, 4) * 10, chance_shortest(chance, yard, 3) * 20))
            self.is_taut(yard, ("ab" * 50 + "a", "ba" * 3, "AB"))

    def test_nothing_handed_in_is_changed(self):
        words = ("aab", "bA")
        taut("abAB", words)
        self.assertEqual(words, ("aab", "bA"))


if __name__ == "__main__":
    unittest.main()
