import unittest

from mustmeet.drawings import plain
from mustmeet.meetings import corners, count_meetings, meetings, points
from samples import YARDS, names_of, some_drawings


def points_round(yard, drawing):
    told = []
    for end in yard:
        order = drawing[1][names_of(yard).index(end.lower())]
        told += [(cord, place, end) for cord, place in (order if end == end.lower() else order[::-1])]
    return told


def meetings_walked(yard, drawing):
    """Goes round from one point of each corner to its other one and counts the points come by."""
    every = points_round(yard, drawing)
    corners = []
    for cord, word in enumerate(drawing[0]):
        for place in range(len(word)):
            before = place - 1 if place else len(word) - 1
            corners.append((cord, place, (cord, before, word[before].swapcase()), (cord, place, word[place])))
    told = []
    for one in corners:
        start = every.index(one[2])
        walk = every[start + 1:] + every[:start]
        passed = walk[:walk.index(one[3])]
        for other in corners:
            if one[:2] < other[:2] and (other[2] in passed) != (other[3] in passed):
                told.append(one[:2] + other[:2])
    return sorted(told)


class TestPoints(unittest.TestCase):
    def test_told_drawings(self):
        self.assertEqual(points("aA", ((), ((),))), [])
        self.assertEqual(points("abAB", (("", ""), ((), ()))), [])
        self.assertEqual(points("aA", (("a",), (((0, 0),),))), [(0, 0, "a"), (0, 0, "A")])
        self.assertEqual(points("Aa", (("a",), (((0, 0),),))), [(0, 0, "A"), (0, 0, "a")])
        self.assertEqual(points("aA", (("A",), (((0, 0),),))), [(0, 0, "a"), (0, 0, "A")])
        self.assertEqual(points("abAB", (("ab",), (((0, 0),), ((0, 1),)))),
                         [(0, 0, "a"), (0, 1, "b"), (0, 0, "A"), (0, 1, "B")])

    def test_capitals_ends_from_the_last_to_the_first(self):
        self.assertEqual(points("aA", (("aaa",), (((0, 1), (0, 2), (0, 0)),))),
                         [(0, 1, "a"), (0, 2, "a"), (0, 0, "a"), (0, 0, "A"), (0, 2, "A"), (0, 1, "A")])
        self.assertEqual(points("BAba", (("aa", "bB"), (((0, 0), (0, 1)), ((1, 1), (1, 0))))),
                         [(1, 0, "B"), (1, 1, "B"), (0, 1, "A"), (0, 0, "A"),
                          (1, 1, "b"), (1, 0, "b"), (0, 0, "a"), (0, 1, "a")])

    def test_drawings_by_chance(self):
        for yard in YARDS:
            for drawing in some_drawings(yard, 20):
                self.assertEqual(points(yard, drawing), points_round(yard, drawing))

    def test_kinds(self):
        told = points("abAB", plain("abAB", ("abA", "b")))
        self.assertIs(type(told), list)
        for point in told:
            self.assertIs(type(point), tuple)
            self.assertEqual([type(part) for part in point], [int, int, str])

    def test_each_list_is_a_new_one(self):
        drawing = plain("abAB", ("abA", "b"))
        told = points("abAB", drawing)
        kept = list(told)
        told.clear()
        self.assertEqual(points("abAB", drawing), kept)
        self.assertIsNot(points("abAB", drawing), points("abAB", drawing))
        self.assertEqual(drawing, plain("abAB", ("abA", "b")))


class TestMeetings(unittest.TestCase):
    def test_none(self):
        for yard, words in (("aA", ()), ("abAB", ("", "")), ("aA", ("a",)), ("aA", ("a", "a")), ("aA", ("a", "A")),
                            ("aAbB", ("a", "b")), ("abAB", ("ab",)), ("abBA", ("aB",))):
            self.assertEqual(meetings(yard, plain(yard, words)), [], (yard, words))

    def test_told_drawings(self):
        self.assertEqual(meetings("abAB", plain("abAB", ("a", "b"))), [(0, 0, 1, 0)])
        self.assertEqual(meetings("aA", plain("aA", ("aa",))), [(0, 0, 0, 1)])
        self.assertEqual(meetings("aA", (("aa",), (((0, 1), (0, 0)),))), [(0, 0, 0, 1)])
        self.assertEqual(meetings("aA", plain("aA", ("aaa",))), [(0, 0, 0, 1), (0, 0, 0, 2)])
        self.assertEqual(meetings("aA", (("aa", "a"), (((0, 0), (1, 0), (0, 1)),))),
                         [(0, 0, 0, 1), (0, 0, 1, 0), (0, 1, 1, 0)])
        self.assertEqual(meetings("abBA", plain("abBA", ("ab",))), [(0, 0, 0, 1)])
        self.assertEqual(meetings("abAB", plain("abAB", ("abAB", "", "b"))),
                         [(0, 0, 0, 1), (0, 0, 0, 3), (0, 1, 0, 2), (0, 1, 2, 0), (0, 2, 0, 3), (0, 2, 2, 0)])

    def test_swapped_strands(self):
        self.assertEqual(meetings("aAbB", (("a", "ab"), (((0, 0), (1, 0)), ((1, 1),)))), [(0, 0, 1, 0), (0, 0, 1, 1)])
        self.assertEqual(meetings("aAbB", (("a", "ab"), (((1, 0), (0, 0)), ((1, 1),)))), [])

    def test_drawings_by_chance(self):
        met = 0
        for yard in YARDS:
            for drawing in some_drawings(yard, 40):
                told = meetings(yard, drawing)
                met += len(told)
                self.assertEqual(told, meetings_walked(yard, drawing), (yard, drawing))
        self.assertGreater(met, 1000)

    def test_24_strands(self):
        for yard in ("abAB", "aBcAbC"):
            words = ("abABab", "BBaaBA", "ababab", "AbAbAb")
            first, second = plain("abAB", words)[1]
            orders = (first[::-1], second[3:] + second[:3]) + ((),) * (len(yard) // 2 - 2)
            self.assertEqual(meetings(yard, (words, orders)), meetings_walked(yard, (words, orders)))

    def test_sorted_by_numbers(self):
        told = meetings("aA", plain("aA", ("a" * 12,)))
        self.assertEqual(told, [(0, 0, 0, place) for place in range(1, 12)])

    def test_kinds(self):
        told = meetings("abAB", plain("abAB", ("abAB", "b")))
        self.assertIs(type(told), list)
        for meeting in told:
            self.assertIs(type(meeting), tuple)
            self.assertEqual([type(part) for part in meeting], [int] * 4)

    def test_each_list_is_a_new_one(self):
        drawing = plain("abAB", ("abAB", "b"))
        told = meetings("abAB", drawing)
        kept = list(told)
        told.append((9, 9, 9, 9))
        told.pop(0)
        self.assertEqual(meetings("abAB", drawing), kept)
        self.assertIsNot(meetings("abAB", drawing), meetings("abAB", drawing))
        self.assertEqual(drawing, plain("abAB", ("abAB", "b")))


class TestCountMeetings(unittest.TestCase):
    def test_as_many_as_meetings(self):
        for yard in YARDS:
            for drawing in some_drawings(yard, 60):
                every = corners(yard, drawing)
                self.assertEqual(count_meetings(every), len(meetings(yard, drawing)))
                ones = [corner for corner in every if corner[0] == 0]
                own = [thing for thing in meetings(yard, drawing) if thing[0] == thing[2] == 0]
                self.assertEqual(count_meetings(ones), len(own))


if __name__ == "__main__":
    unittest.main()
