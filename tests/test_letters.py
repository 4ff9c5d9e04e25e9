import itertools
import string
import unittest

from mustmeet.letters import contrary, turned


class TestContrary(unittest.TestCase):
    def test_every_letter(self):
        for small, capital in zip(string.ascii_lowercase, string.ascii_uppercase):
            self.assertEqual(contrary(small), capital)
            self.assertEqual(contrary(capital), small)

    def test_kind(self):
        self.assertIs(type(contrary("a")), str)
        self.assertIs(type(contrary("A")), str)


class TestTurned(unittest.TestCase):
    def test_told_words(self):
        told = {
            "": "",
            "a": "A",
            "A": "a",
            "ab": "BA",
            "aB": "bA",
            "aA": "aA",
            "abc": "CBA",
            "aabC": "cBAA",
            "zAyQ": "qYaZ",
            "abAB": "baBA",
        }
        for word, expected in told.items():
            self.assertEqual(turned(word), expected, word)
            self.assertIs(type(turned(word)), str)

    def test_letters_from_the_end(self):
        for size in range(6):
            for letters in itertools.product("aAbB", repeat=size):
                word = "".join(letters)
                expected = "".join(letter.swapcase() for letter in word[::-1])
                self.assertEqual(turned(word), expected)

    def test_turned_twice_is_the_word(self):
        for word in ("", "a", "abAC", "ZzyX", "abcdefghijkl"):
            self.assertEqual(turned(turned(word)), word)


if __name__ == "__main__":
    unittest.main()
