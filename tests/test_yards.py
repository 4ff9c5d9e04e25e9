import itertools
import unittest

from mustmeet.errors import MeetError, NoWord, NoYard
from mustmeet.yards import bands, goes_round, look_word, look_yard, within

YARDS = ("aA", "Aa", "abAB", "aAbB", "abBA", "BAba", "zaZA", "abcABC", "cabCAB", "aBcAbC", "DaCbAcBd", "abABcdCD")


class LookCase(unittest.TestCase):
    def refused(self, error, at, look, *handed):
        with self.assertRaises(MeetError) as caught:
            look(*handed)
        self.assertIs(type(caught.exception), error, handed)
        self.assertEqual(caught.exception.at, at, handed)
        self.assertIs(type(caught.exception.at), int)


class TestLookYard(LookCase):
    def test_let_by(self):
        for yard in YARDS:
            self.assertIs(look_yard(yard), True)
        self.assertIs(look_yard("zyxwZYXW"), True)

    def test_without_signs(self):
        self.refused(NoYard, 0, look_yard, "")

    def test_no_letter(self):
        told = {"1": 0, " aA": 0, "aA ": 2, "a-A": 1, "aA\n": 2, "ab1AB": 2, "aA_": 2, "aA1b": 2,
                "aA[": 2, "aA`": 2, "aA@": 2, "aA{": 2}
        for text, at in told.items():
            self.refused(NoYard, at, look_yard, text)

    def test_letters_of_other_alphabets_are_none(self):
        for sign in "\u00e9\u00c9\u00df\u03b1\u212a\u0130\u0131\u017f\uff41\u00aa\ud800":
            self.refused(NoYard, 2, look_yard, "aA" + sign)
            self.refused(NoYard, 0, look_yard, sign + sign.upper())

    def test_a_letter_twice(self):
        told = {"aa": 1, "aAa": 2, "abAa": 3, "aAbBA": 4, "abABb": 4, "abcb": 3}
        for text, at in told.items():
            self.refused(NoYard, at, look_yard, text)

    def test_a_ninth_letter(self):
        for text in ("aAbBcCdDe", "aAbBcCdDeE", "abcdABCDEe", "abcdefghi", "aAbBcCdDa", "aAbBcCdD1", "aAbBcCdDeEfF"):
            self.refused(NoYard, 8, look_yard, text)

    def test_without_its_contrary(self):
        told = {"a": 0, "A": 0, "ab": 0, "abA": 1, "aAb": 2, "Aab": 2, "abBAc": 4, "acABb": 1, "aAbBcCdE": 6,
                "abcdefgh": 0}
        for text, at in told.items():
            self.refused(NoYard, at, look_yard, text)

    def test_of_two_faults_the_one_that_is_due_first(self):
        told = {"a1a": 1, "aa1": 1, "bA1": 2, "bAA": 2, "abcdefgh1": 8, "abcdefg1h": 7, "abcdefgAa": 8,
                "aAbBcCd1e": 7, "aAbBcCaDe": 6, "b1": 1, "ba b": 2, "bab ": 2}
        for text, at in told.items():
            self.refused(NoYard, at, look_yard, text)

    def test_all_short_texts(self):
        for size in range(1, 6):
            for signs in itertools.product("aAbB.", repeat=size):
                text = "".join(signs)
                first = [k for k in range(size) if text[k] == "." or text.index(text[k]) < k]
                second = [k for k in range(size) if text[k].swapcase() not in text]
                if first + second:
                    self.refused(NoYard, (first + second)[0], look_yard, text)
                else:
                    self.assertIs(look_yard(text), True)


class TestLookWord(LookCase):
    def test_let_by(self):
        for word in ("", "a", "A", "b", "abAB", "aA", "aaaaaaaaaaaa", "BbBbAa"):
            self.assertIs(look_word("abAB", word), True)
        self.assertIs(look_word("dDzZ", "zdZDz"), True)

    def test_refused(self):
        told = {"c": 0, "abc": 2, "abCc": 2, " ": 0, "a b": 1, "ab\n": 2, "-": 0, "a1c": 1, "\u00e9": 0, "aB\u212a": 2,
                "ababababababc": 12}
        for text, at in told.items():
            self.refused(NoWord, at, look_word, "abAB", text)

    def test_by_the_yard_alone(self):
        self.refused(NoWord, 1, look_word, "aA", "abAB")
        self.refused(NoWord, 0, look_word, "bB", "abAB")
        self.assertIs(look_word("cabCAB", "abAB"), True)

    def test_every_letter_by_every_yard(self):
        for yard in YARDS:
            for sign in "abcdzABCDZ.":
                if sign in yard:
                    self.assertIs(look_word(yard, yard + sign), True)
                else:
                    self.refused(NoWord, len(yard), look_word, yard, yard + sign + "?")


class TestBands(unittest.TestCase):
    def test_told_yards(self):
        told = {"aA": "a", "Aa": "a", "abAB": "ab", "BAba": "ab", "zaZA": "az", "cabCAB": "abc", "DaCbAcBd": "abcd",
                "dDcCbBaA": "abcd", "zZ": "z"}
        for yard, names in told.items():
            self.assertEqual(bands(yard), names)
            self.assertIs(type(bands(yard)), str)


class TestGoesRound(unittest.TestCase):
    def test_told_ends(self):
        self.assertIs(goes_round("abAB", "a", "b", "A"), True)
        self.assertIs(goes_round("abAB", "a", "A", "b"), False)
        self.assertIs(goes_round("abAB", "A", "B", "a"), True)
        self.assertIs(goes_round("abAB", "A", "a", "B"), False)
        self.assertIs(goes_round("abAB", "B", "a", "b"), True)
        self.assertIs(goes_round("abAB", "B", "b", "a"), False)
        self.assertIs(goes_round("abAB", "b", "B", "a"), True)

    def test_all_ends_of_all_yards(self):
        for yard in YARDS:
            for x, y, z in itertools.permutations(yard, 3):
                begun = yard[yard.index(x):] + yard[:yard.index(x)]
                self.assertIs(goes_round(yard, x, y, z), begun.index(y) < begun.index(z))

    def test_begun_at_another_end_it_is_the_same(self):
        for x, y, z in itertools.permutations("abcABC", 3):
            self.assertIs(goes_round("abcABC", x, y, z), goes_round("CabcAB", x, y, z))


class TestWithin(unittest.TestCase):
    def test_told_yards(self):
        told = {
            ("aA", "a"): "aA",
            ("Aa", "a"): "Aa",
            ("abAB", "a"): "aA",
            ("abAB", "b"): "bB",
            ("abAB", "ab"): "abAB",
            ("abAB", "ba"): "abAB",
            ("BAba", "a"): "Aa",
            ("BAba", "b"): "Bb",
            ("cabCBA", "ac"): "caCA",
            ("DaCbAcBd", "dc"): "DCcd",
            ("DaCbAcBd", "bda"): "DabABd",
            ("zaZA", "z"): "zZ",
        }
        for (yard, some), expected in told.items():
            self.assertEqual(within(yard, some), expected)
            self.assertIs(type(within(yard, some)), str)

    def test_all_bands_in_any_order(self):
        for yard in YARDS:
            for some in itertools.permutations(bands(yard)):
                self.assertEqual(within(yard, "".join(some)), yard)

    def test_a_yard_within_is_a_yard(self):
        for yard in YARDS:
            for size in range(1, len(yard) // 2 + 1):
                for some in itertools.combinations(bands(yard), size):
                    inner = within(yard, "".join(some))
                    self.assertIs(look_yard(inner), True)
                    self.assertEqual(bands(inner), "".join(some))
                    self.assertEqual(inner, "".join(end for end in yard if end in inner))


class TestAskedAgain(unittest.TestCase):
    def test_the_same(self):
        for yard in YARDS:
            self.assertEqual(bands(yard), bands(yard))
            self.assertEqual(within(yard, yard[0].lower()), within(yard, yard[0].lower()))
            self.assertIs(look_yard(yard), look_yard(yard))
            self.assertIs(look_word(yard, yard), look_word(yard, yard))


if __name__ == "__main__":
    unittest.main()
