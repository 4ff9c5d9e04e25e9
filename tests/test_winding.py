import itertools
import random
import unittest

from mustmeet.apart import lie_apart
from mustmeet.errors import MeetError, NotLone
from mustmeet.least import between, least, own
from mustmeet.lone import is_lone, lone_loops
from mustmeet.meetings import meetings, points
from mustmeet.taut import taut
from mustmeet.winding import undone, wound, wound_all
from mustmeet.words import loop, ring, shortest
from samples import YARDS, about, all_drawings, begun_at, chance_shortest, is_shortest, shortest_words

SIZES = {1: 1, 2: 4, 3: 3, 4: 2}


def slow_points(word, cord, place):
    ahead = (place - 1) % len(word)
    return (cord, ahead, word[ahead].swapcase()), (cord, place, word[place])


def slow_wound(yard, drawing, times):
    """Point 30 read slowly: cord 0 of the drawing, wound along cord 1."""
    (word, along), orders = drawing
    every = points(yard, drawing)
    parts = ""
    for place, letter in enumerate(word):
        comes_in, goes_out = slow_points(word, 0, place)
        start = every.index(comes_in)
        going = every[start:] + every[:start]
        for point in going[:going.index(goes_out)]:
            # Of a corner of the other cord that is met just one point stands here.
            for other in range(len(along)):
                other_in, other_out = slow_points(along, 1, other)
                met = (0, place, 1, other) in meetings(yard, drawing)
                if met and point in (other_in, other_out):
                    start = every.index(goes_out)
                    behind = every[start:] + every[:start]
                    begun = begun_at(along, other)
                    as_it_is = (behind.index(other_out) < behind.index(comes_in)) == (times > 0)
                    parts += (begun if as_it_is else about(begun)) * abs(times)
        parts += letter
    return ring(parts)


def lone_words(yard, chance, how_many, size):
    """Lone cords by chance, begun anywhere, some turned about."""
    told = []
    for word in chance.choices(lone_loops(yard, size), k=how_many):
        word = begun_at(word, chance.randrange(len(word)))
        told.append(about(word) if chance.random() < 0.5 else word)
    return told


class TestWound(unittest.TestCase):
    def test_told_words(self):
        told = {("abAB", "a", 1, "b"): "Ab", ("abAB", "a", -1, "b"): "ab", ("abAB", "a", 2, "b"): "AAb",
                ("abAB", "a", -3, "b"): "aaab", ("abAB", "a", 0, "b"): "b", ("abAB", "A", 1, "b"): "Ab",
                ("abAB", "b", 1, "a"): "ab", ("abAB", "ab", 1, "aB"): "aaab", ("aAbB", "ab", 1, "aB"): "Ba",
                ("aAbBcC", "ab", 1, "bc"): "AbabcB", ("abAB", "abAB", 3, "a"): "a", ("zaZA", "z", 1, "a"): "Za",
                ("abAB", "a", 1, "abbBA"): "Ab", ("abAB", "a", 2, "bb"): "AAbAAb"}
        for (yard, along, times, word), expected in told.items():
            self.assertEqual(wound(yard, along, times, word), expected, (yard, along, times, word))

    def test_read_slowly_from_any_taut_drawing(self):
        for yard, sizes in (("abAB", (4, 3)), ("aAbB", (3, 2)), ("abBA", (3, 2)), ("aBcAbC", (2, 2)),
                            ("CcbaAB", (2, 2)), ("abABcdCD", (2, 2))):
            chance = random.Random(yard)
            for number in range(25):
                word = chance_shortest(chance, yard, chance.randrange(1, sizes[0] + 1))
                along = lone_words(yard, chance, 1, sizes[1])[0]
                if len(word) + len(along) > 7:
                    continue
                many = least(yard, (word, along))
                found = 0
                for drawing in all_drawings(yard, (word, along)):
                    if len(meetings(yard, drawing)) == many:
                        found += 1
                        for times in (1, -1, 2):
                            expected = slow_wound(yard, drawing, times)
                            self.assertEqual(wound(yard, along, times, word), expected, (yard, along, times, word))
                self.assertGreater(found, 0)

    def test_read_slowly(self):
        for yard in YARDS:
            chance = random.Random("slow " + yard)
            for number in range(12):
                word = chance_shortest(chance, yard, chance.randrange(1, 9))
                along = lone_words(yard, chance, 1, SIZES[len(yard) // 2])[0]
                for times in (-3, -1, 0, 1, 2):
                    expected = slow_wound(yard, taut(yard, (word, along)), times)
                    self.assertEqual(wound(yard, along, times, word), expected, (yard, along, times, word))

    def test_kept_numbers(self):
        for yard in YARDS:
            chance = random.Random("kept " + yard)
            for number in range(12):
                one = chance_shortest(chance, yard, chance.randrange(1, 9))
                other = chance.choice((one, about(one), chance_shortest(chance, yard, chance.randrange(1, 9))))
                along = lone_words(yard, chance, 1, SIZES[len(yard) // 2])[0]
                for times in (-3, -1, 1, 2):
                    both = (wound(yard, along, times, one), wound(yard, along, times, other))
                    self.assertEqual(between(yard, both[0], both[1]), between(yard, one, other))
                    self.assertEqual(own(yard, both[0]), own(yard, one))
                    self.assertEqual(least(yard, both), least(yard, (one, other)))

    def test_undone_by_the_contrary(self):
        for yard in YARDS:
            chance = random.Random("undone " + yard)
            for number in range(12):
                word = chance_shortest(chance, yard, chance.randrange(1, 9))
                along = lone_words(yard, chance, 1, SIZES[len(yard) // 2])[0]
                for times in range(-3, 4):
                    there = wound(yard, along, times, word)
                    self.assertEqual(wound(yard, along, -times, there), ring(word))
                    self.assertEqual(wound(yard, about(along), times, word), there)
                    self.assertEqual(wound(yard, begun_at(along, 1), times, word), there)
                    self.assertEqual(wound(yard, along, times, about(word)), ring(about(there)))

    def test_times_add_up(self):
        for yard in YARDS:
            chance = random.Random("times " + yard)
            for number in range(8):
                word = chance_shortest(chance, yard, chance.randrange(1, 9))
                along = lone_words(yard, chance, 1, SIZES[len(yard) // 2])[0]
                for one, other in ((1, 1), (2, 1), (3, -1), (-1, -2)):
                    there = wound(yard, along, other, wound(yard, along, one, word))
                    self.assertEqual(there, wound(yard, along, one + other, word))

    def test_exchanged_along_two_that_lie_apart(self):
        found = 0
        for yard in YARDS:
            chance = random.Random("apart " + yard)
            for number in range(30):
                along = lone_words(yard, chance, 2, SIZES[len(yard) // 2])
                if lie_apart(yard, tuple(along)):
                    found += loop(along[0]) != loop(along[1])
                    word = chance_shortest(chance, yard, chance.randrange(1, 7))
                    pairs = ((along[0], chance.choice((1, 2))), (along[1], chance.choice((1, -2))))
                    self.assertEqual(wound_all(yard, pairs, word), wound_all(yard, pairs[::-1], word))
        self.assertGreater(found, 50)

    def test_along_two_that_meet_once(self):
        found = 0
        for yard in ("abAB", "zaZA", "abcABC", "cabCAB", "aBcAbC", "abABcdCD", "abcdABCD"):
            chance = random.Random("once " + yard)
            for one, other in itertools.product(lone_loops(yard, 2), repeat=2):
                if between(yard, one, other) == 1:
                    found += 1
                    for times in (1, -1):
                        word = chance_shortest(chance, yard, chance.randrange(1, 6))
                        row = ((one, times), (other, times), (one, times))
                        contrary_row = ((other, times), (one, times), (other, times))
                        self.assertEqual(wound_all(yard, row, word), wound_all(yard, contrary_row, word))
        self.assertGreater(found, 20)

    def test_lone_cords_meet_what_they_were(self):
        for yard in YARDS:
            chance = random.Random("square " + yard)
            for number in range(15):
                word, along = lone_words(yard, chance, 2, SIZES[len(yard) // 2])
                for times in range(-3, 4):
                    there = wound(yard, along, times, word)
                    self.assertIs(is_lone(yard, there), True)
                    self.assertEqual(between(yard, there, word), abs(times) * between(yard, along, word) ** 2)

    def test_no_letters(self):
        for yard in YARDS:
            for word in ("", yard[0] + yard[0].swapcase()):
                for times in (-2, 0, 1):
                    self.assertEqual(wound(yard, yard[0], times, word), "")

    def test_no_times(self):
        for yard in YARDS:
            for word in shortest_words(yard, 2):
                self.assertEqual(wound(yard, yard[0], 0, word), ring(word))

    def test_round_the_same_loop(self):
        for yard in YARDS:
            for along in lone_loops(yard, SIZES[len(yard) // 2])[:20]:
                for word in (along, begun_at(along, 1), about(along), along * 2, about(along) * 3):
                    for times in (-1, 2):
                        self.assertEqual(wound(yard, along, times, word), ring(word), (yard, along, word))

    def test_words_that_are_not_shortest(self):
        chance = random.Random(30)
        for yard in YARDS:
            for number in range(20):
                word = "".join(chance.choices(yard, k=8))
                along = lone_words(yard, chance, 1, SIZES[len(yard) // 2])[0]
                expected = wound(yard, along, 2, shortest(word))
                self.assertEqual(wound(yard, along, 2, word), expected)
                self.assertEqual(ring(expected), expected)

    def test_not_lone(self):
        for yard in YARDS:
            words = [word for size in range(1, 4) for word in shortest_words(yard, size)]
            for along in [word for word in words if not is_lone(yard, word)][:10]:
                for times in (-1, 0, 1):
                    for word in ("", yard[0], along):
                        with self.assertRaises(NotLone) as caught:
                            wound(yard, along, times, word)
                        self.assertIs(type(caught.exception), NotLone)
                        self.assertIsInstance(caught.exception, MeetError)

    def test_kinds(self):
        for times in range(-3, 4):
            for word in ("", "b", "abAB"):
                self.assertIs(type(wound("abAB", "a", times, word)), str)


class TestRows(unittest.TestCase):
    def some_row(self, chance, yard):
        row = []
        left = 4
        for along in lone_words(yard, chance, chance.randrange(4), min(SIZES[len(yard) // 2], 3)):
            times = chance.randrange(-min(left, 3), min(left, 3) + 1)
            left -= abs(times)
            row.append((along, times))
        return tuple(row)

    def test_one_behind_the_other(self):
        for yard in YARDS:
            chance = random.Random("row " + yard)
            for number in range(15):
                row = self.some_row(chance, yard)
                word = "".join(chance.choices(yard, k=chance.randrange(7)))
                expected = ring(word)
                for along, times in row:
                    expected = wound(yard, along, times, expected)
                self.assertEqual(wound_all(yard, row, word), expected)

    def test_undone(self):
        self.assertEqual(undone(()), ())
        self.assertEqual(undone((("a", 2),)), (("a", -2),))
        self.assertEqual(undone((("a", 1), ("ab", -3), ("b", 0))), (("b", 0), ("ab", 3), ("a", -1)))
        row = (("a", 1), ("b", 2))
        told = undone(row)
        self.assertEqual(row, (("a", 1), ("b", 2)))
        self.assertEqual([type(told)] + [type(pair) for pair in told], [tuple, tuple, tuple])
        self.assertEqual([(type(along), type(times)) for along, times in told], [(str, int), (str, int)])

    def test_there_and_back(self):
        for yard in YARDS:
            chance = random.Random("back " + yard)
            for number in range(15):
                row = self.some_row(chance, yard)
                word = "".join(chance.choices(yard, k=chance.randrange(8)))
                there = wound_all(yard, row, word)
                self.assertEqual(wound_all(yard, undone(row), there), ring(word), (yard, row, word))
                self.assertEqual(undone(undone(row)), row)

    def test_no_windings(self):
        for yard in YARDS:
            for word in ("", yard[0], yard[0] + yard[1] + yard[0].swapcase()):
                self.assertEqual(wound_all(yard, (), word), ring(word))
                self.assertIs(type(wound_all(yard, (), word)), str)

    def test_kept_numbers(self):
        for yard in YARDS:
            chance = random.Random("rows keep " + yard)
            for number in range(8):
                row = self.some_row(chance, yard)
                words = tuple(chance_shortest(chance, yard, chance.randrange(1, 7)) for cord in range(2))
                there = tuple(wound_all(yard, row, word) for word in words)
                self.assertEqual(least(yard, there), least(yard, words), (yard, row, words))

    def test_long_words(self):
        for yard, row, word in (("abAB", (("AAAb", 2), ("ABBB", 1), ("AAAb", -1)), "AbAAbbbb"),
                                ("abABcdCD", (("CCCD", 2), ("ADBD", -1), ("CCCD", 1)), "AdBDbDDB")):
            there = wound_all(yard, row, word)
            self.assertGreater(len(there), 2000)
            self.assertIs(is_shortest(there), True)
            self.assertEqual(own(yard, there), own(yard, word))
            self.assertEqual(wound_all(yard, undone(row), there), ring(word))

    def test_not_lone(self):
        rows = ((("aa", 1),), (("a", 1), ("bb", 1)), (("aabb", 0), ("a", 1)), (("a", 1), ("b", 0), ("abab", 0)))
        for row in rows:
            for word in ("", "a", "b", "aB", "aA"):
                with self.assertRaises(NotLone) as caught:
                    wound_all("abAB", row, word)
                self.assertIs(type(caught.exception), NotLone)

    def test_nothing_handed_in_is_changed(self):
        row = (("ab", 1), ("b", -2))
        for number in range(2):
            self.assertEqual(wound_all("abAB", row, "aab"), wound_all("abAB", row, "baa"))
        self.assertEqual(row, (("ab", 1), ("b", -2)))


if __name__ == "__main__":
    unittest.main()
