import itertools
import unittest

from mustmeet.forced import forced, is_forced
from samples import YARDS, about, begun_at, shortest_words, some_cords


def round_from(yard, x, y, z):
    """Walks round from x and tells whether y is come to ahead of z."""
    assert len({x, y, z}) == 3
    walk = yard[yard.index(x):] + yard[:yard.index(x)]
    return walk.index(y) < walk.index(z)


def crosses(yard, one, other):
    walk = yard[yard.index(one[0]) + 1:] + yard[:yard.index(one[0])]
    return len([end for end in walk[:walk.index(one[1])] if end in other]) == 1


class Reading:
    """A slow reading of what a forced meeting is, straight from the words that tell it."""

    def __init__(self, yard, words):
        self.yard = yard
        self.words = words

    def letter(self, cord, place):
        return self.words[cord][place % len(self.words[cord])]

    def other_end(self, cord, place):
        return self.letter(cord, place).swapcase()

    def across(self, c, i, d, j):
        one = (self.other_end(c, i - 1), self.letter(c, i))
        other = (self.other_end(d, j - 1), self.letter(d, j))
        return len(set(one + other)) == 4 and crosses(self.yard, one, other)

    def along(self, c, i, d, j, m):
        if any(self.letter(c, i + n) != self.letter(d, j + n) for n in range(m)):
            return False
        if self.letter(c, i - 1) == self.letter(d, j - 1) or self.letter(c, i + m) == self.letter(d, j + m):
            return False
        return (round_from(self.yard, self.other_end(c, i - 1), self.other_end(d, j - 1), self.letter(c, i))
                == round_from(self.yard, self.letter(c, i + m), self.letter(d, j + m), self.other_end(c, i + m - 1)))

    def against(self, c, i, d, j, m):
        if any(self.letter(c, i + n) != self.other_end(d, j - n) for n in range(m)):
            return False
        if self.letter(c, i - 1) == self.other_end(d, j + 1) or self.letter(c, i + m) == self.other_end(d, j - m):
            return False
        return (round_from(self.yard, self.other_end(c, i - 1), self.letter(d, j + 1), self.letter(c, i))
                == round_from(self.yard, self.letter(c, i + m), self.other_end(d, j - m),
                              self.other_end(c, i + m - 1)))

    def is_the_lesser(self, c, i, d, j, m):
        size = len(self.words[c])
        return c < d or (i, j) <= ((j - m + 1) % size, (i + m - 1) % size)

    def all(self):
        told = []
        strands = [(cord, place) for cord, word in enumerate(self.words) for place in range(len(word))]
        for (c, i), (d, j) in itertools.product(strands, repeat=2):
            if (c, i) < (d, j) and self.across(c, i, d, j):
                told.append((c, i, d, j, 0, "across"))
            for m in range(1, len(self.words[c]) + len(self.words[d]) + 2):
                if (c, i) < (d, j) and self.along(c, i, d, j, m):
                    told.append((c, i, d, j, m, "along"))
                if c <= d and self.against(c, i, d, j, m) and self.is_the_lesser(c, i, d, j, m):
                    told.append((c, i, d, j, m, "against"))
        return sorted(told)


class TestForced(unittest.TestCase):
    def test_no_words(self):
        for yard in YARDS:
            self.assertEqual(forced(yard, ()), [])

    def test_told_cords(self):
        told = {
            ("aA", ("a",)): [],
            ("aA", ("a", "a")): [],
            ("aA", ("aaa", "AA")): [],
            ("abAB", ("a", "b")): [(0, 0, 1, 0, 0, "across")],
            ("abAB", ("ab",)): [],
            ("abAB", ("abAB",)): [],
            ("abAB", ("a", "ab")): [(0, 0, 1, 0, 1, "along")],
            ("abAB", ("A", "ab")): [(0, 0, 1, 0, 1, "against")],
            ("abAB", ("ab", "aB")): [(0, 0, 1, 0, 1, "along"), (0, 1, 1, 1, 1, "against")],
            ("aAbB", ("ab",)): [],
            ("aAbB", ("aB",)): [(0, 0, 0, 1, 0, "across")],
            ("aAbB", ("a", "b")): [],
            ("abBA", ("ab",)): [(0, 0, 0, 1, 0, "across")],
            ("abBA", ("aB",)): [],
        }
        for (yard, words), expected in told.items():
            self.assertEqual(forced(yard, words), expected, (yard, words))
            self.assertEqual(Reading(yard, words).all(), expected, (yard, words))

    def test_every_short_cord(self):
        for yard, size in (("aA", 8), ("abAB", 6), ("aAbB", 5), ("abBA", 5), ("aBcAbC", 4), ("CcbaAB", 3),
                           ("abABcdCD", 3), ("aAbBcCdD", 3)):
            for word in itertools.chain(*[shortest_words(yard, length) for length in range(1, size + 1)]):
                self.assertEqual(forced(yard, (word,)), Reading(yard, (word,)).all(), (yard, word))

    def test_every_two_short_cords(self):
        for yard, size in (("abAB", 3), ("aAbB", 3), ("BAba", 3), ("aBcAbC", 2)):
            words = list(itertools.chain(*[shortest_words(yard, length) for length in range(1, size + 1)]))
            for pair in itertools.product(words, repeat=2):
                self.assertEqual(forced(yard, pair), Reading(yard, pair).all(), (yard, pair))

    def test_cords_by_chance(self):
        kinds = {}
        for yard in YARDS:
            for words in some_cords(yard, 20):
                told = forced(yard, words)
                self.assertEqual(told, Reading(yard, words).all(), (yard, words))
                for thing in told:
                    kinds[thing[5]] = kinds.get(thing[5], 0) + 1
        self.assertEqual(sorted(kinds), ["across", "against", "along"])
        self.assertGreater(min(kinds.values()), 200)

    def test_stretches_longer_than_a_word(self):
        told = forced("abAB", ("aaaaaB", "aB"))
        self.assertEqual(told, Reading("abAB", ("aaaaaB", "aB")).all())
        words = ("aabaabaab" + "aab" + "b", "aab")
        told = forced("aAbB", words)
        self.assertEqual(told, Reading("aAbB", words).all())
        self.assertGreater(max(thing[4] for thing in told), len(words[1]) * 2)

    def test_cords_that_are_one(self):
        for yard in YARDS:
            for words in some_cords(yard, 6, 8):
                word = words[0]
                for other in (word, begun_at(word, 1), about(word), about(word) * 2, word * 2):
                    told = forced(yard, (word, other))
                    self.assertEqual(told, Reading(yard, (word, other)).all())
                    between = [thing for thing in told if thing[0] != thing[2]]
                    times = len(other) // len(word)
                    self.assertEqual(len(between), 2 * times * len(forced(yard, (word,))))

    def test_roots_gone_round_more_than_once(self):
        for yard in YARDS:
            for words in some_cords(yard, 6, 6):
                for times in (2, 3):
                    told = forced(yard, (words[0] * times,))
                    self.assertEqual(len(told), times * times * len(forced(yard, (words[0],))))

    def test_long_words(self):
        words = ("abaBaabbAbaB", "aabAABaBBabb")
        for yard in ("abAB", "aAbB", "abBA"):
            self.assertEqual(forced(yard, words), Reading(yard, words).all())
        words = ("abcdABCD", "aabbcD", "DcBa", "dddabc")
        for yard in ("abABcdCD", "abcdABCD", "aAbBcCdD"):
            self.assertEqual(forced(yard, words), Reading(yard, words).all())

    def test_words_that_were_told_may_be_of_any_size(self):
        word = "ab" * 60 + "aB"
        told = forced("abAB", (word, "ab"))
        self.assertEqual(told, sorted(set(told)))
        self.assertTrue(all(is_forced("abAB", (word, "ab"), thing) for thing in told))

    def test_kinds(self):
        told = forced("aAbB", ("abABab", "aB"))
        self.assertIs(type(told), list)
        self.assertGreater(len(told), 5)
        for thing in told:
            self.assertIs(type(thing), tuple)
            self.assertEqual([type(part) for part in thing], [int] * 5 + [str])

    def test_each_list_is_a_new_one(self):
        words = ("abABab", "aB")
        told = forced("aAbB", words)
        kept = list(told)
        told.clear()
        self.assertEqual(forced("aAbB", words), kept)
        self.assertIsNot(forced("aAbB", words), forced("aAbB", words))
        self.assertEqual(words, ("abABab", "aB"))


class TestIsForced(unittest.TestCase):
    def test_just_those_told(self):
        for yard, words in (("abAB", ("aabb", "ab")), ("aAbB", ("aB", "Ab")), ("abBA", ("abab",)), ("aA", ("aa", "A")),
                            ("aBcAbC", ("abc", "Ca")), ("abAB", ())):
            told = forced(yard, words)
            places = range(-2, 6)
            for c, i, d, j in itertools.product(range(-1, len(words) + 1), places, range(-1, len(words) + 1), places):
                for m, word in itertools.product(range(-1, 6), ("across", "along", "against", "", "Across")):
                    thing = (c, i, d, j, m, word)
                    self.assertIs(is_forced(yard, words, thing), thing in told, (yard, words, thing))

    def test_cords_by_chance(self):
        for yard in YARDS:
            for words in some_cords(yard, 6):
                told = forced(yard, words)
                for c, i, d, j, m, word in told:
                    self.assertIs(is_forced(yard, words, (c, i, d, j, m, word)), True)
                    for thing in ((c, i, d, j, m + 1, word), (c, i, d, j, m - 1, word), (d, j, c, i, m, word),
                                  (c, i - len(words[c]), d, j, m, word), (c, i, d, j + len(words[d]), m, word),
                                  (c - len(words), i, d, j, m, word), (c, i, d, j, -m, word),
                                  (c, i, d, j, m, word + " "), (c, i, d, j, m + len(words[c]), word),
                                  (c, i, d, (j + 1) % len(words[d]), m, word)):
                        self.assertIs(is_forced(yard, words, thing), thing in told, (yard, words, thing))

    def test_of_one_cord_the_lesser_alone(self):
        seen = 0
        for yard in YARDS:
            for words in some_cords(yard, 6):
                for c, i, d, j, m, word in forced(yard, words):
                    if c == d and word == "against":
                        seen += 1
                        size = len(words[c])
                        other = (c, (j - m + 1) % size, d, (i + m - 1) % size, m, word)
                        self.assertIs(is_forced(yard, words, other), False)
        self.assertGreater(seen, 20)

    def test_great_numbers(self):
        thing = (0, 0, 1, 0, 0, "across")
        self.assertIs(is_forced("abAB", ("a", "b"), thing), True)
        for place in range(5):
            for number in (10 ** 30, -10 ** 30, 2, -1):
                strange = thing[:place] + (number,) + thing[place + 1:]
                self.assertIs(is_forced("abAB", ("a", "b"), strange), False)

    def test_asked_again(self):
        for number in range(3):
            self.assertIs(is_forced("abAB", ("a", "b"), (0, 0, 1, 0, 0, "across")), True)
            self.assertIs(is_forced("abAB", ("a", "b"), (0, 0, 1, 0, 1, "along")), False)


if __name__ == "__main__":
    unittest.main()
