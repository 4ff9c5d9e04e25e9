import itertools
import unittest

from mustmeet.rims import handles, rims
from samples import YARDS


def least_begun(word):
    return min(word[k:] + word[:k] for k in range(len(word)))


def sides_followed(yard):
    """Follows both sides of every band as wires between places, without the program's own words."""
    follow = {}
    for number, end in enumerate(yard):
        passed = yard[(number + 1) % len(yard)]
        follow[end] = (passed, passed.swapcase())
    told = []
    while follow:
        start = sorted(follow)[0]
        word = ""
        place = start
        while place in follow:
            passed, place = follow.pop(place)
            word += passed
        told.append(least_begun(word))
    return sorted(told)


class TestRims(unittest.TestCase):
    def test_told_yards(self):
        told = {
            "aA": ["A", "a"],
            "Aa": ["A", "a"],
            "abAB": ["AbaB"],
            "aAbB": ["A", "B", "ab"],
            "abBA": ["Ab", "B", "a"],
            "BAba": ["ABab"],
            "abcABC": ["AbC", "Bca"],
            "aAbBcCdD": ["A", "B", "C", "D", "abcd"],
            "abABcdCD": ["AbcDCdaB"],
            "aAzZ": ["A", "Z", "az"],
        }
        for yard, expected in told.items():
            self.assertEqual(rims(yard), expected, yard)

    def test_every_yard_of_up_to_three_bands(self):
        for letters in ("aA", "aAbB", "aAbBcC"):
            for ends in itertools.permutations(letters):
                yard = "".join(ends)
                self.assertEqual(rims(yard), sides_followed(yard), yard)

    def test_yards_of_four_bands(self):
        for ends in itertools.islice(itertools.permutations("aAbBcCdD"), 0, None, 97):
            yard = "".join(ends)
            self.assertEqual(rims(yard), sides_followed(yard), yard)

    def test_each_place_is_on_one_rim(self):
        for yard in YARDS:
            self.assertEqual(sorted("".join(rims(yard))), sorted(yard))

    def test_begun_at_another_end_it_is_the_same(self):
        for yard in YARDS:
            for k in range(len(yard)):
                self.assertEqual(rims(yard[k:] + yard[:k]), rims(yard))

    def test_kinds(self):
        for yard in YARDS:
            self.assertIs(type(rims(yard)), list)
            for rim in rims(yard):
                self.assertIs(type(rim), str)

    def test_each_list_is_a_new_one(self):
        for yard in YARDS:
            told = rims(yard)
            kept = list(told)
            told.append("x")
            told[0] = "y"
            self.assertEqual(rims(yard), kept)
            self.assertIsNot(rims(yard), rims(yard))


class TestHandles(unittest.TestCase):
    def test_told_yards(self):
        told = {"aA": 0, "Aa": 0, "abAB": 1, "aAbB": 0, "abBA": 0, "abcABC": 1, "abABcC": 1, "aAbBcCdD": 0,
                "abABcdCD": 2, "abcdABCD": 2, "abABcCdD": 1}
        for yard, expected in told.items():
            self.assertEqual(handles(yard), expected, yard)

    def test_by_bands_and_rims(self):
        for ends in itertools.permutations("aAbBcC"):
            yard = "".join(ends)
            self.assertEqual(2 * handles(yard), 3 + 1 - len(sides_followed(yard)), yard)

    def test_kind_and_asked_again(self):
        for yard in YARDS:
            self.assertIs(type(handles(yard)), int)
            self.assertEqual(handles(yard), handles(yard))


if __name__ == "__main__":
    unittest.main()
