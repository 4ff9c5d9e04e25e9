import itertools
import random
import unittest

from mustmeet.apart import full_set, lie_apart, most
from mustmeet.lone import is_lone, lone_loops
from mustmeet.meetings import meetings
from mustmeet.rims import handles, rims
from mustmeet.taut import taut
from mustmeet.words import loop, shortest
from mustmeet.yards import within
from samples import YARDS, about, begun_at, fewest, names_of

ROWS = {1: 6, 2: 5, 3: 3, 4: 2}


def yards_of(names):
    """All yards of these bands that begin with the first one's small letter."""
    ends = names + names.upper()
    return [ends[0] + "".join(rest) for rest in itertools.permutations(ends[1:])]


def widest(loops, apart):
    """How many of these can be at most, each two apart."""
    best = 0
    for number, word in enumerate(loops):
        best = max(best, 1 + widest([other for other in loops[number + 1:] if apart[word, other]], apart))
    return best


class TestLieApart(unittest.TestCase):
    def test_told_words(self):
        told = {
            ("abAB", ()): True, ("abAB", ("a",)): True, ("abAB", ("a", "b")): False, ("abAB", ("a", "abAB")): True,
            ("abAB", ("a", "a", "A")): True, ("abAB", ("aa",)): False, ("abAB", ("a", "aa")): False,
            ("abAB", ("a", "")): False, ("abAB", ("",)): False, ("abAB", ("bB", "a")): False,
            ("abAB", ("baB", "abABb", "bAB")): False, ("abAB", ("baB", "BabA", "bAB")): True,
            ("aAbB", ("a", "b", "ab")): True, ("aAbB", ("a", "b", "aB")): False, ("aAbB", ("bab", "B")): False,
            ("aAbB", ("babB", "B", "bAB")): True, ("aA", ("a", "A", "aaA")): True, ("aA", ("aA",)): False,
            ("aAbBcCdD", ("ab", "cd", "abcd", "c")): True, ("aAbBcCdD", ("ab", "bc")): False,
        }
        for (yard, words), expected in told.items():
            self.assertIs(lie_apart(yard, words), expected, (yard, words))

    def test_pairs(self):
        for yard in YARDS:
            words = lone_loops(yard, ROWS[len(yard) // 2])[:20] + ["", yard[0] * 2, yard[:2] * 2]
            for one, other in itertools.product(words, repeat=2):
                expected = is_lone(yard, one) and is_lone(yard, other)
                if expected:
                    expected = fewest(yard, (shortest(one), shortest(other))) == 0
                self.assertIs(lie_apart(yard, (one, other)), expected, (yard, one, other))

    def test_cords_that_are_one(self):
        for yard in YARDS:
            for word in lone_loops(yard, ROWS[len(yard) // 2]):
                self.assertIs(lie_apart(yard, (word, word)), True)
                self.assertIs(lie_apart(yard, (word, begun_at(word, 1), about(word))), True)

    def test_words_that_are_not_shortest(self):
        chance = random.Random(26)
        for yard in YARDS:
            loops = lone_loops(yard, 3)
            for number in range(40):
                words = chance.choices(loops, k=chance.randrange(1, 5))
                longer = []
                for word in words:
                    letter = chance.choice(yard)
                    place = chance.randrange(len(word) + 1)
                    word = word[:place] + letter + letter.swapcase() + word[place:]
                    letter = chance.choice(yard)
                    longer.append(letter + word + letter.swapcase())
                expected = fewest(yard, tuple(words)) == 0
                self.assertIs(lie_apart(yard, tuple(words)), expected)
                self.assertIs(lie_apart(yard, tuple(longer)), expected, (yard, longer))

    def test_drawn_without_meetings(self):
        for yard in YARDS:
            for words in itertools.combinations(lone_loops(yard, 2), 3):
                self.assertIs(lie_apart(yard, words), meetings(yard, taut(yard, words)) == [])

    def test_nothing_handed_in_is_changed(self):
        words = ("baB", "BabA")
        for number in range(2):
            self.assertIs(lie_apart("abAB", words), True)
        self.assertEqual(words, ("baB", "BabA"))


class TestMost(unittest.TestCase):
    def test_told_yards(self):
        told = {"aA": 1, "Aa": 1, "abAB": 2, "aAbB": 3, "abBA": 3, "abcABC": 4, "aAbBcC": 5, "CcbaAB": 5,
                "abABcdCD": 5, "abcdABCD": 5, "aAbBcCdD": 7, "abABcCdD": 6}
        for yard, expected in told.items():
            self.assertEqual(most(yard), expected, yard)
            self.assertIs(type(most(yard)), int)

    def test_bands_and_handles(self):
        for yard in YARDS + tuple(yards_of("abc")):
            self.assertEqual(most(yard), 2 * (len(yard) // 2) - 1 - handles(yard))

    def test_never_more_lie_apart(self):
        for yard in ("aA", "abAB", "aAbB", "abBA", "abcABC", "aBcAbC", "CcbaAB", "aAbBcC", "aAbBcCdD"):
            loops = lone_loops(yard, {1: 6, 2: 6, 3: 3, 4: 3}[len(yard) // 2])
            apart = {pair: lie_apart(yard, pair) for pair in itertools.product(loops, repeat=2)}
            self.assertLessEqual(widest(loops, apart), most(yard), yard)


class TestFullSet(unittest.TestCase):
    def test_told_yards(self):
        told = {"aA": ["A"], "zZ": ["Z"], "abAB": ["A", "ABab"], "aAbB": ["A", "B", "AB"], "abBA": ["A", "B", "Ab"],
                "zaZA": ["A", "AZaz"], "aBcAbC": ["A", "ABC", "ACB", "ABab"],
                "aAbBcCdD": ["A", "B", "C", "D", "AB", "ACB", "ADCB"],
                "abABcdCD": ["A", "C", "ABab", "ACBab", "ADcdCBab"]}
        for yard, expected in told.items():
            self.assertEqual(full_set(yard), expected, yard)

    def check_yard(self, yard):
        told = full_set(yard)
        found = {}
        names = "".join(names_of(yard))
        for count in range(1, len(names) + 1):
            for rim in rims(within(yard, names[:count])):
                found[loop(rim)] = True
        self.assertEqual(told, sorted(found, key=lambda word: (len(word), word)), yard)
        self.assertEqual(len(told), most(yard), yard)
        self.assertIs(lie_apart(yard, tuple(told)), True, yard)

    def test_every_small_yard(self):
        for names in ("a", "ab", "abc"):
            for yard in yards_of(names):
                self.check_yard(yard)

    def test_yards_of_four_bands(self):
        chance = random.Random(27)
        for number in range(60):
            self.check_yard("".join(chance.sample("abcdABCD", 8)))
        for yard in YARDS:
            self.check_yard(yard)

    def test_kinds_and_a_new_list(self):
        told = full_set("abAB")
        self.assertIs(type(told), list)
        self.assertEqual({type(word) for word in told}, {str})
        told.clear()
        self.assertEqual(full_set("abAB"), ["A", "ABab"])


if __name__ == "__main__":
    unittest.main()
