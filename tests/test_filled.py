import itertools
import random
import unittest

from mustmeet.apart import full_set, lie_apart, most
from mustmeet.errors import MeetError, NotApart
from mustmeet.filled import filled
from mustmeet.lone import lone_loops
from mustmeet.pieces import pieces
from mustmeet.taut import taut
from mustmeet.winding import wound_all
from mustmeet.words import loop
from samples import YARDS, about, begun_at

SIZES = {1: 6, 2: 6, 3: 4, 4: 3}


def longer(chance, yard, word):
    """The same cord by a word that isn't shortest."""
    place = chance.randrange(len(word) + 1)
    letter = chance.choice(yard)
    word = word[:place] + letter + letter.swapcase() + word[place:]
    letter = chance.choice(yard)
    return letter + word + letter.swapcase()


class TestFilled(unittest.TestCase):
    def check(self, yard, words):
        told = filled(yard, words)
        self.assertIs(type(told), list)
        self.assertEqual(told, sorted(set(told), key=lambda word: (len(word), word)), (yard, words))
        self.assertEqual(len(told), most(yard), (yard, words))
        self.assertEqual([loop(word) for word in told], told)
        self.assertIs(lie_apart(yard, tuple(told)), True, (yard, words))
        for word in words:
            self.assertIn(loop(word), told)
        return told

    def test_told_yards(self):
        # Where the words leave but one way to fill them up.
        told = {("aA", ()): ["A"], ("aA", ("a", "A")): ["A"], ("aAbB", ()): ["A", "B", "AB"],
                ("aAbB", ("ab",)): ["A", "B", "AB"], ("abBA", ("B",)): ["A", "B", "Ab"],
                ("abAB", ("aab",)): ["AAB", "ABab"], ("abAB", ("b", "B", "aAb")): ["B", "ABab"],
                ("aAbBcC", ("bc",)): ["A", "B", "C", "BC", "ACB"]}
        for (yard, words), expected in told.items():
            self.assertEqual(self.check(yard, words), expected, (yard, words))

    def test_no_words(self):
        for yard in YARDS:
            self.check(yard, ())

    def test_each_lone_cord(self):
        for yard in YARDS:
            for word in lone_loops(yard, SIZES[len(yard) // 2])[:60]:
                self.check(yard, (word,))

    def test_every_small_yard(self):
        for names in ("a", "ab", "abc"):
            ends = names + names.upper()
            for rest in itertools.permutations(ends[1:]):
                yard = ends[0] + "".join(rest)
                self.check(yard, ())
                self.check(yard, (ends[-1],))

    def test_some_that_lie_apart(self):
        chance = random.Random(29)
        for yard in YARDS:
            loops = lone_loops(yard, SIZES[len(yard) // 2])
            for number in range(25):
                words = ()
                for tries in range(10):
                    word = chance.choice(loops)
                    word = begun_at(chance.choice((word, about(word))), chance.randrange(len(word)))
                    if len(words) < 4 and lie_apart(yard, words + (word,)):
                        words += (word,)
                self.check(yard, words)

    def test_cords_that_are_one(self):
        for yard in YARDS:
            for word in lone_loops(yard, 3):
                once = filled(yard, (word,))
                self.assertEqual(len(self.check(yard, (word, begun_at(word, 1), about(word)))), len(once))

    def test_words_that_are_not_shortest(self):
        chance = random.Random(2)
        for yard in YARDS:
            for word in lone_loops(yard, 3):
                self.check(yard, (longer(chance, yard, word), word, longer(chance, yard, about(word))))

    def test_rims(self):
        for yard in YARDS:
            self.check(yard, tuple(full_set(yard)[-2:]))
            whole = tuple(full_set(yard))
            self.assertEqual(filled(yard, whole), full_set(yard))
            self.assertEqual(filled(yard, tuple(filled(yard, (yard[0],)))), filled(yard, (yard[0],)))

    def test_long_words(self):
        for yard, row in (("abAB", (("AAAb", 2), ("Abb", 1), ("AAAb", 1))), ("abcdABCD", (("Bddd", 2), ("BBC", 1))),
                          ("aBcAbC", (("AAAb", 2), ("Bccc", 1), ("AAAb", 1)))):
            words = tuple(wound_all(yard, row, word) for word in full_set(yard)[:3])
            self.assertGreater(max(map(len, words)), 24)
            self.check(yard, words)

    def test_cut_along_them(self):
        for yard in YARDS:
            for word in lone_loops(yard, 2):
                told = pieces(yard, taut(yard, tuple(filled(yard, (word,)))))
                self.assertEqual(sum(2 - len(piece[1]) - 2 * piece[0] for piece in told), 1 - len(yard) // 2)
                self.assertEqual({piece[0] for piece in told}, {0})

    def test_refused(self):
        cases = [("abAB", ("a", "b")), ("abAB", ("aa",)), ("abAB", ("",)), ("abAB", ("a", "")), ("abAB", ("abBA",)),
                 ("aA", ("aa",)), ("aA", ("a", "AA")), ("aAbB", ("aB",)), ("aAbB", ("a", "b", "aB")),
                 ("aAbBcCdD", ("ab", "bc")), ("aAbBcCdD", ("ab", "cd", "d", "bdD", "bc")), ("abcABC", ("abc",)),
                 ("abAB", ("babB", "aBabA"))]
        for yard, words in cases:
            with self.assertRaises(NotApart, msg=(yard, words)) as caught:
                filled(yard, words)
            self.assertIs(type(caught.exception), NotApart)
            self.assertIsInstance(caught.exception, MeetError)

    def test_refused_just_where_they_do_not_lie_apart(self):
        chance = random.Random(26)
        for yard in YARDS:
            for number in range(40):
                words = tuple("".join(chance.choices(yard, k=chance.randrange(4))) for cord in range(2))
                if lie_apart(yard, words):
                    self.check(yard, words)
                else:
                    with self.assertRaises(NotApart):
                        filled(yard, words)

    def test_kinds_and_a_new_list(self):
        words = ("Aaab", "abAB")
        told = filled("abAB", words)
        self.assertEqual({type(word) for word in told}, {str})
        kept = list(told)
        told.clear()
        self.assertEqual(filled("abAB", words), kept)
        self.assertEqual(words, ("Aaab", "abAB"))


if __name__ == "__main__":
    unittest.main()
