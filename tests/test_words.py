import itertools
import unittest

from mustmeet.words import are_one, loop, ring, root, shortened, shortest


def all_words(letters, most):
    for size in range(most + 1):
        for chosen in itertools.product(letters, repeat=size):
            yield "".join(chosen)


def without_pairs(word, leftmost):
    """Takes out letters beside their contraries, one pair at a time, from the left or from the right."""
    while True:
        places = [k for k in range(len(word) - 1) if word[k] == word[k + 1].swapcase()]
        if not places:
            return word
        k = places[0] if leftmost else places[-1]
        word = word[:k] + word[k + 2:]


def stripped(word):
    word = without_pairs(word, True)
    while len(word) >= 2 and word[0] == word[-1].swapcase():
        word = word[1:-1]
    return word


def least_begun(word):
    word = stripped(word)
    return sorted([word[k:] + word[:k] for k in range(len(word))] + ([""] if not word else []))[0]


def about(word):
    return word[::-1].swapcase()


class TestShortened(unittest.TestCase):
    def test_told_words(self):
        told = {
            "": "",
            "a": "a",
            "A": "A",
            "aA": "",
            "Aa": "",
            "aa": "aa",
            "ab": "ab",
            "aB": "aB",
            "aAb": "b",
            "aAa": "a",
            "AaA": "A",
            "abBA": "",
            "abcCBA": "",
            "abcCBd": "ad",
            "aAbBcC": "",
            "abAB": "abAB",
            "abA": "abA",
            "aBbA": "",
            "abBAAbBa": "",
            "abBc": "ac",
            "zZZz": "",
            "caAbBC": "",
            "aabBAA": "",
        }
        for word, expected in told.items():
            self.assertEqual(shortened(word), expected, word)
            self.assertIs(type(shortened(word)), str)

    def test_ends_alone_stay(self):
        for word in ("abA", "AbBBa", "abcA", "aabAA"):
            self.assertEqual(shortened(word)[0], word[0])
            self.assertEqual(shortened(word)[-1], word[-1])

    def test_in_whatever_order(self):
        for word in all_words("aAbB", 6):
            self.assertEqual(shortened(word), without_pairs(word, True), word)
            self.assertEqual(shortened(word), without_pairs(word, False), word)

    def test_deep_contraries(self):
        deep = "ab" * 3000
        self.assertEqual(shortened(deep + about(deep)), "")
        self.assertEqual(shortened(deep + "c" + about(deep)), deep + "c" + about(deep))


class TestShortest(unittest.TestCase):
    def test_told_words(self):
        told = {
            "": "",
            "a": "a",
            "aA": "",
            "abA": "b",
            "AbBBa": "B",
            "abcBA": "c",
            "abcBd": "abcBd",
            "abAB": "abAB",
            "aabAA": "b",
            "abaA": "ab",
            "aba": "aba",
            "abcCA": "b",
            "aBAbA": "A",
            "aBAbaA": "aBAb",
            "abcabCBA": "ab",
            "aaA": "a",
        }
        for word, expected in told.items():
            self.assertEqual(shortest(word), expected, word)
            self.assertIs(type(shortest(word)), str)

    def test_all_short_words(self):
        for word in all_words("aAbB", 6):
            self.assertEqual(shortest(word), stripped(word), word)

    def test_a_shortest_word_is_its_own(self):
        for word in all_words("aAbB", 6):
            self.assertEqual(shortest(shortest(word)), shortest(word))

    def test_deep_ends(self):
        deep = "ab" * 3000
        self.assertEqual(shortest(deep + "c" + about(deep)), "c")


class TestRing(unittest.TestCase):
    def test_told_words(self):
        told = {
            "": "",
            "aA": "",
            "a": "a",
            "ba": "ab",
            "bA": "Ab",
            "aB": "Ba",
            "ab": "ab",
            "abAB": "ABab",
            "baBA": "AbaB",
            "cab": "abc",
            "bab": "abb",
            "abA": "b",
            "AbBBa": "B",
            "zYxW": "WzYx",
            "baba": "abab",
            "aaBaaB": "BaaBaa",
        }
        for word, expected in told.items():
            self.assertEqual(ring(word), expected, word)
            self.assertIs(type(ring(word)), str)

    def test_all_short_words(self):
        for word in all_words("aAbB", 6):
            self.assertEqual(ring(word), least_begun(word), word)

    def test_begun_elsewhere_it_is_the_same(self):
        word = "abAcBabCCb"
        for k in range(len(word)):
            self.assertEqual(ring(word[k:] + word[:k]), ring(word))

    def test_capitals_come_first(self):
        self.assertEqual(ring("aZ"), "Za")
        self.assertEqual(ring("abC"), "Cab")


class TestLoop(unittest.TestCase):
    def test_told_words(self):
        told = {
            "": "",
            "aA": "",
            "a": "A",
            "A": "A",
            "ab": "AB",
            "BA": "AB",
            "aB": "Ab",
            "Ab": "Ab",
            "abAB": "ABab",
            "baBA": "ABab",
            "abA": "B",
            "abc": "ACB",
            "cBA": "AcB",
        }
        for word, expected in told.items():
            self.assertEqual(loop(word), expected, word)
            self.assertIs(type(loop(word)), str)

    def test_all_short_words(self):
        for word in all_words("aAbB", 6):
            self.assertEqual(loop(word), min(least_begun(word), least_begun(about(word))), word)
            self.assertEqual(loop(about(word)), loop(word))


class TestAreOne(unittest.TestCase):
    def test_one(self):
        pairs = (("", ""), ("", "aA"), ("ab", "ba"), ("abA", "b"), ("abc", "cab"), ("aab", "CbaaBbc"), ("aabA", "ab"))
        for one, other in pairs:
            self.assertIs(are_one(one, other), True, (one, other))
            self.assertIs(are_one(other, one), True, (one, other))

    def test_not_one(self):
        for one, other in (("a", ""), ("a", "b"), ("a", "aa"), ("ab", "abab"), ("ab", "aB"), ("abc", "acb")):
            self.assertIs(are_one(one, other), False)
            self.assertIs(are_one(other, one), False)

    def test_one_turned_about_alone(self):
        for word in ("a", "ab", "aB", "abc", "abAB", "aab"):
            self.assertIs(are_one(word, about(word)), False)
            self.assertIs(are_one(about(word), about(word)), True)

    def test_all_pairs_of_short_words(self):
        words = list(all_words("aAb", 4))
        for one in words:
            for other in words:
                self.assertIs(are_one(one, other), least_begun(one) == least_begun(other))


class TestRoot(unittest.TestCase):
    def test_told_words(self):
        told = {
            "": ("", 0),
            "aA": ("", 0),
            "abBA": ("", 0),
            "a": ("a", 1),
            "A": ("A", 1),
            "aa": ("a", 2),
            "aaaa": ("a", 4),
            "ab": ("ab", 1),
            "ba": ("ab", 1),
            "baba": ("ab", 2),
            "bababa": ("ab", 3),
            "abaabaabaaba": ("aab", 4),
            "aabaab": ("aab", 2),
            "aab": ("aab", 1),
            "abaab": ("aabab", 1),
            "abABabAB": ("ABab", 2),
            "cababC": ("ab", 2),
            "bbbbbb": ("b", 6),
            "abababab": ("ab", 4),
            "aaab": ("aaab", 1),
        }
        for word, expected in told.items():
            self.assertEqual(root(word), expected, word)

    def test_kinds(self):
        for word in ("", "a", "abab", "aA"):
            pair = root(word)
            self.assertIs(type(pair), tuple)
            self.assertEqual(len(pair), 2)
            self.assertIs(type(pair[0]), str)
            self.assertIs(type(pair[1]), int)

    def test_as_often_as_can_be(self):
        for word in all_words("aAb", 8):
            whole = least_begun(word)
            if whole == "":
                self.assertEqual(root(word), ("", 0))
                continue
            most = max(k for k in range(1, len(whole) + 1)
                       if len(whole) % k == 0 and whole[:len(whole) // k] * k == whole)
            self.assertEqual(root(word), (whole[:len(whole) // most], most))


class TestAskedAgain(unittest.TestCase):
    def test_the_same(self):
        for ask in (shortened, shortest, ring, loop, root):
            for word in ("", "abBA", "cababC", "abAB"):
                self.assertEqual(ask(word), ask(word))


if __name__ == "__main__":
    unittest.main()
