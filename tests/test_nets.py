import itertools
import random
import unittest
from fractions import Fraction

from mustmeet.least import between
from mustmeet.lone import lone_loops
from mustmeet.nets import crossed, net, rank, table
from mustmeet.rims import handles
from mustmeet.sides import sides
from mustmeet.winding import wound
from mustmeet.words import shortest
from samples import YARDS, about, names_of, some_drawing


def going_from(yard, end):
    place = yard.index(end)
    return yard[place + 1:] + yard[:place]


def slow_entry(yard, x, y):
    """Point 38 read slowly."""
    going = going_from(yard, x)
    passed = going[:going.index(x.swapcase())]
    if x == y or (y in passed) == (y.swapcase() in passed):
        return 0
    going = going_from(yard, x.upper())
    return 1 if going.index(y.upper()) < going.index(x) else -1


def slow_crossed(yard, one, other):
    """Letter by letter in the place of nets."""
    total = 0
    for letter, other_letter in itertools.product(one, other):
        number = slow_entry(yard, letter.lower(), other_letter.lower())
        total += number if letter.islower() == other_letter.islower() else -number
    return total


def slow_rank(rows):
    """Rows are cleared by those kept ahead; one of noughts alone is left out, else it is kept."""
    kept = []
    for row in rows:
        row = [Fraction(number) for number in row]
        for other in kept:
            first = next(column for column, number in enumerate(other) if number != 0)
            times = row[first] / other[first]
            row = [number - times * less for number, less in zip(row, other)]
        if any(row):
            kept.append(row)
    return len(kept)


def all_yards(names):
    ends = names + names.upper()
    return [ends[0] + "".join(rest) for rest in itertools.permutations(ends[1:])]


class TestNet(unittest.TestCase):
    def test_told_words(self):
        told = {("aA", ""): (0,), ("aA", "aaA"): (1,), ("Aa", "AA"): (-2,), ("abAB", "abAB"): (0, 0),
                ("abAB", "aabBBb"): (2, 0), ("zaZA", "zzA"): (-1, 2), ("aAbBcCdD", "dDdcccA"): (-1, 0, 3, 1)}
        for (yard, word), expected in told.items():
            self.assertEqual(net(yard, word), expected, (yard, word))

    def test_words_by_chance(self):
        chance = random.Random(38)
        for yard in YARDS:
            for number in range(20):
                word = "".join(chance.choices(yard, k=chance.randrange(13)))
                told = net(yard, word)
                self.assertEqual(told, tuple(word.count(name) - word.count(name.upper()) for name in names_of(yard)))
                self.assertEqual(net(yard, shortest(word)), told)
                self.assertEqual(net(yard, about(word)), tuple(-number for number in told))

    def test_kinds(self):
        for yard in YARDS:
            told = net(yard, yard[:2])
            self.assertIs(type(told), tuple)
            self.assertEqual([type(number) for number in told], [int] * (len(yard) // 2))


class TestTable(unittest.TestCase):
    def test_told_yards(self):
        told = {"aA": ((0,),), "Aa": ((0,),), "abAB": ((0, 1), (-1, 0)), "baBA": ((0, -1), (1, 0)),
                "aAbB": ((0, 0), (0, 0)), "abBA": ((0, 0), (0, 0)), "ABab": ((0, 1), (-1, 0)),
                "aBAb": ((0, -1), (1, 0)), "zaZA": ((0, -1), (1, 0)), "abcABC": ((0, 1, 1), (-1, 0, 1), (-1, -1, 0)),
                "abABcC": ((0, 1, 0), (-1, 0, 0), (0, 0, 0))}
        for yard, expected in told.items():
            self.assertEqual(table(yard), expected, yard)

    def test_every_small_yard(self):
        for names in ("a", "ab", "abc"):
            for yard in all_yards(names):
                expected = tuple(tuple(slow_entry(yard, x, y) for y in names) for x in names)
                self.assertEqual(table(yard), expected, yard)

    def test_yards_of_four_bands(self):
        chance = random.Random(4)
        for yard in YARDS + tuple("".join(chance.sample("abczABCZ", 8)) for number in range(100)):
            names = names_of(yard)
            self.assertEqual(table(yard), tuple(tuple(slow_entry(yard, x, y) for y in names) for x in names), yard)

    def test_kinds(self):
        for yard in YARDS:
            told = table(yard)
            self.assertIs(type(told), tuple)
            for row in told:
                self.assertIs(type(row), tuple)
                self.assertEqual([type(number) for number in row], [int] * (len(yard) // 2))


class TestCrossed(unittest.TestCase):
    def test_told_words(self):
        told = {("abAB", "a", "b"): 1, ("abAB", "b", "a"): -1, ("abAB", "aaa", "bb"): 6, ("abAB", "abAB", "ab"): 0,
                ("abAB", "", "ab"): 0, ("abAB", "ab", "aB"): -2, ("aAbB", "ab", "aB"): 0, ("abcABC", "aB", "cc"): 0,
                ("abcABC", "ab", "cc"): 4, ("zaZA", "z", "aaA"): 1, ("aA", "aa", "A"): 0}
        for (yard, one, other), expected in told.items():
            self.assertEqual(crossed(yard, one, other), expected, (yard, one, other))
            self.assertIs(type(crossed(yard, one, other)), int)

    def test_words_by_chance(self):
        chance = random.Random(39)
        for yard in YARDS:
            for number in range(30):
                one, other = ("".join(chance.choices(yard, k=chance.randrange(9))) for cord in range(2))
                told = crossed(yard, one, other)
                self.assertEqual(told, slow_crossed(yard, one, other), (yard, one, other))
                self.assertEqual(crossed(yard, other, one), -told)
                self.assertEqual(crossed(yard, shortest(one), shortest(other)), told)

    def test_as_the_sides_of_any_drawing(self):
        chance = random.Random(37)
        for yard in YARDS:
            for number in range(30):
                words = tuple("".join(chance.choices(yard, k=chance.randrange(9))) for cord in range(3))
                for time in range(3):
                    drawing = some_drawing(chance, yard, words)
                    for c, d in itertools.permutations(range(3), 2):
                        self.assertEqual(sides(yard, drawing, c, d), crossed(yard, words[c], words[d]))

    def test_beside_the_forced_meetings(self):
        chance = random.Random(22)
        for yard in YARDS:
            for number in range(40):
                one, other = ("".join(chance.choices(yard, k=chance.randrange(1, 9))) for cord in range(2))
                if shortest(one) and shortest(other):
                    many = between(yard, shortest(one), shortest(other))
                    told = crossed(yard, one, other)
                    self.assertLessEqual(abs(told), many)
                    self.assertEqual((many - told) % 2, 0)

    def test_words_that_were_wound(self):
        chance = random.Random(30)
        for yard in YARDS:
            loops = lone_loops(yard, 3)
            for number in range(30):
                along = chance.choice(loops)
                along = chance.choice((along, about(along)))
                word = "".join(chance.choices(yard, k=chance.randrange(9)))
                times = chance.randrange(-3, 4)
                many = times * crossed(yard, word, along)
                expected = tuple(one + many * other for one, other in zip(net(yard, word), net(yard, along)))
                self.assertEqual(net(yard, wound(yard, along, times, word)), expected, (yard, along, times, word))


class TestRank(unittest.TestCase):
    def test_told_yards(self):
        told = {"aA": 0, "abAB": 2, "aAbB": 0, "abBA": 0, "abcABC": 2, "abcdABCD": 4, "abABcdCD": 4, "aAbBcCdD": 0}
        for yard, expected in told.items():
            self.assertEqual(rank(yard), expected, yard)
            self.assertIs(type(rank(yard)), int)

    def test_by_another_clearing(self):
        chance = random.Random(2)
        four = tuple("".join(chance.sample("abcdABCD", 8)) for number in range(200))
        for yard in YARDS + tuple(all_yards("abc")) + four:
            self.assertEqual(rank(yard), slow_rank(table(yard)), yard)
            self.assertEqual(rank(yard), 2 * handles(yard), yard)

    def test_asked_again(self):
        for yard in YARDS:
            self.assertEqual((rank(yard), table(yard)), (rank(yard), table(yard)))


if __name__ == "__main__":
    unittest.main()
