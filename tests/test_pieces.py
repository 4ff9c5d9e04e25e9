import itertools
import random
import unittest

from mustmeet.apart import full_set, lie_apart
from mustmeet.drawings import plain
from mustmeet.errors import MeetError, NoCut
from mustmeet.lone import lone_loops
from mustmeet.meetings import meetings, points
from mustmeet.pieces import pieces
from mustmeet.rims import rims
from mustmeet.taut import taut
from mustmeet.words import ring
from samples import YARDS, about, all_drawings, begun_at, names_of, some_drawing, strands_by_band


def next_end(yard, end):
    return yard[(yard.index(end) + 1) % len(yard)]


class SlowCut:
    """Point 28 read slowly: a region is told by its side of each chord, a rim by one place that it comes by."""

    def __init__(self, yard, drawing):
        self.yard = yard
        self.words = drawing[0]
        self.points = points(yard, drawing)
        self.chords = []
        for cord, word in enumerate(self.words):
            for place, letter in enumerate(word):
                ahead = (place - 1) % len(word)
                comes_in = self.points.index((cord, ahead, word[ahead].swapcase()))
                self.chords.append((cord, place, comes_in, self.points.index((cord, place, letter))))
        self.strips = self.all_strips([len(strands) for strands in strands_by_band(yard, self.words)])
        self.root = {}
        for one, other in self.strips:
            self.root[self.top(one)] = self.top(other)

    def region(self, arc):
        """Arc k goes from point k to the next one; without points there is but one."""
        return tuple(min(start, end) <= arc < max(start, end) for cord, place, start, end in self.chords)

    def arc_at(self, end, ahead):
        """The arc at this end behind so many of its points."""
        before = [point for point in self.points if self.yard.index(point[2]) < self.yard.index(end)]
        return (len(before) + ahead - 1) % max(len(self.points), 1)

    def all_strips(self, counts):
        told = []
        for name, count in zip(names_of(self.yard), counts):
            for number in range(count + 1):
                told.append((self.region(self.arc_at(name, number)),
                             self.region(self.arc_at(name.upper(), count - number))))
        return told

    def top(self, region):
        while region in self.root and self.root[region] != region:
            region = self.root[region]
        return region

    def rims(self):
        """All rims, each with the piece that it is of."""
        told = []
        left = list(self.yard)
        while left:
            word, end = "", left[0]
            piece = self.top(self.region(self.arc_at(end, len([each for each in self.points if each[2] == end]))))
            while end in left:
                left.remove(end)
                word += next_end(self.yard, end)
                end = word[-1].swapcase()
            told.append((piece, ring(word)))
        for cord, place, comes_in, goes_out in self.chords:
            if place == 0:
                # To the left of a cord lies what comes, going round, behind the point where it goes out.
                told.append((self.top(self.region(goes_out)), ring(self.words[cord])))
                told.append((self.top(self.region(comes_in)), ring(about(self.words[cord]))))
        return told

    def pieces(self):
        regions = {self.region(arc) for arc in range(max(len(self.points), 1))}
        told = []
        for piece in {self.top(region) for region in regions}:
            found = tuple(sorted(word for which, word in self.rims() if which == piece))
            many = len([region for region in regions if self.top(region) == piece])
            many -= len([pair for pair in self.strips if self.top(pair[0]) == piece])
            told.append(((2 - len(found) - many) // 2, found))
            assert (2 - len(found) - many) % 2 == 0
        return sorted(told)


class TestPieces(unittest.TestCase):
    def check(self, yard, drawing):
        told = pieces(yard, drawing)
        self.assertEqual(told, SlowCut(yard, drawing).pieces(), (yard, drawing))
        every = sorted(rim for piece in told for rim in piece[1])
        words = [word for word in drawing[0] if word != ""]
        expected = rims(yard) + [ring(word) for word in words] + [ring(about(word)) for word in words]
        self.assertEqual(every, sorted(expected), (yard, drawing))
        self.assertEqual(sum(2 - len(piece[1]) - 2 * piece[0] for piece in told), 1 - len(yard) // 2)
        self.assertTrue(all(piece[0] >= 0 for piece in told))

    def test_told_drawings(self):
        told = {
            ("aA", ("a",)): [(0, ("A", "a")), (0, ("A", "a"))],
            ("aA", ("a", "A")): [(0, ("A", "a"))] * 3,
            ("abAB", ("a",)): [(0, ("A", "AbaB", "a"))],
            ("abAB", ("abAB",)): [(0, ("ABab", "AbaB")), (1, ("AbaB",))],
            ("abAB", ("a", "abAB")): [(0, ("A", "AbaB", "a")), (0, ("ABab", "AbaB"))],
            ("aAbB", ("ab",)): [(0, ("A", "B", "ab")), (0, ("AB", "ab"))],
            ("abABcdCD", ("abAB",)): [(1, ("ABab", "AbcDCdaB")), (1, ("AbaB",))],
            ("aAbBcCdD", ("ab",)): [(0, ("A", "B", "ab")), (0, ("AB", "C", "D", "abcd"))],
        }
        for (yard, words), expected in told.items():
            self.assertEqual(pieces(yard, taut(yard, words)), expected, (yard, words))

    def test_no_cords(self):
        for yard in YARDS:
            many = (len(yard) // 2 + 1 - len(rims(yard))) // 2
            self.assertEqual(pieces(yard, plain(yard, ())), [(many, tuple(rims(yard)))])

    def test_words_without_letters(self):
        for yard in YARDS:
            self.assertEqual(pieces(yard, plain(yard, ("", ""))), pieces(yard, plain(yard, ())))
            for words in ((yard[0],), (yard[0], yard[0])):
                longer = ("",) + words + ("",)
                self.assertEqual(pieces(yard, taut(yard, words)), pieces(yard, self.with_more(yard, words, longer)))

    def with_more(self, yard, words, longer):
        drawing = taut(yard, words)
        return (longer, tuple(tuple((cord + 1, place) for cord, place in order) for order in drawing[1]))

    def test_all_drawings_of_short_cords(self):
        found = 0
        for yard in ("aA", "Aa", "abAB", "aAbB", "abBA", "zaZA"):
            letters = sorted(yard)
            for size in range(1, 6 if len(yard) == 2 else 5):
                for word in map("".join, itertools.product(letters, repeat=size)):
                    for parts in {(word,), (word[:1], word[1:]), (word[:2], word[2:])}:
                        for drawing in all_drawings(yard, parts):
                            found += self.check_or_refused(yard, drawing)
        self.assertGreater(found, 1000)

    def check_or_refused(self, yard, drawing):
        if meetings(yard, drawing):
            with self.assertRaises(NoCut):
                pieces(yard, drawing)
            return 0
        self.check(yard, drawing)
        return 1

    def test_drawings_by_chance(self):
        chance = random.Random(28)
        for yard in YARDS:
            found = 0
            for number in range(400):
                words = tuple("".join(chance.choices(yard, k=chance.randrange(4))) for cord in range(3))
                found += self.check_or_refused(yard, some_drawing(chance, yard, words))
            self.assertGreater(found, 10)

    def test_cords_that_lie_apart(self):
        chance = random.Random(3)
        for yard in YARDS:
            loops = lone_loops(yard, 3)
            for number in range(15):
                words = ()
                for tries in range(8):
                    word = chance.choice(loops)
                    word = begun_at(chance.choice((word, about(word))), chance.randrange(len(word)))
                    if len(words) < 4 and lie_apart(yard, words + (word,)):
                        words += (word,)
                self.check(yard, taut(yard, words))

    def test_full_sets_leave_plain_pieces(self):
        for yard in YARDS:
            drawing = taut(yard, tuple(full_set(yard)))
            self.check(yard, drawing)
            # Along each of the yard's rims lies a piece of two rims, and all others are of three.
            told = pieces(yard, drawing)
            self.assertEqual([piece[0] for piece in told], [0] * len(told))
            self.assertEqual({len(piece[1]) for piece in told} - {2, 3}, set())
            self.assertEqual(len([piece for piece in told if len(piece[1]) == 3]), len(yard) // 2 - 1)

    def test_cords_that_can_be_taken_out(self):
        self.assertEqual(pieces("aA", (("aA",), (((0, 0), (0, 1)),))), [(0, ("",)), (0, ("", "A", "a"))])
        for yard in YARDS:
            word = yard[0] + yard[0].swapcase()
            for drawing in all_drawings(yard, (word, word)):
                self.check_or_refused(yard, drawing)

    def test_refused(self):
        for yard, words in (("abAB", ("a", "b")), ("aA", ("aa",)), ("abAB", ("", "ab", "aB"))):
            with self.assertRaises(NoCut) as caught:
                pieces(yard, taut(yard, words))
            self.assertIs(type(caught.exception), NoCut)
            self.assertIsInstance(caught.exception, MeetError)

    def test_kinds_and_a_new_list(self):
        drawing = taut("abAB", ("a", "abAB"))
        kept = (tuple(drawing[0]), tuple(tuple(order) for order in drawing[1]))
        told = pieces("abAB", drawing)
        self.assertIs(type(told), list)
        for piece in told:
            self.assertIs(type(piece), tuple)
            self.assertEqual([type(part) for part in piece], [int, tuple])
            self.assertEqual({type(rim) for rim in piece[1]}, {str})
        told.clear()
        self.assertEqual(len(pieces("abAB", drawing)), 2)
        self.assertEqual(drawing, kept)


if __name__ == "__main__":
    unittest.main()
