import random
import unittest

from mustmeet.deeds import done
from mustmeet.drawings import look_drawing, plain
from mustmeet.errors import MeetError, NoDeed
from mustmeet.words import ring
from samples import YARDS, check_drawing_kind, names_of, some_drawings

STRANGE = ("", "ab", "aA", "aa", "abAB", " ", "-", "e", "E", "\u212a", "\u00e9", "swap")


class Marked:
    """A drawing whose strands bear marks of their own, so that none has to be numbered anew."""

    def __init__(self, yard, drawing):
        self.yard = yard
        marks = iter(range(10 ** 6))
        self.cords = [[(letter, next(marks)) for letter in word] for word in drawing[0]]
        self.bands = [[self.cords[cord][place][1] for cord, place in order] for order in drawing[1]]
        self.marks = marks

    def drawing(self):
        places = {}
        for cord, strands in enumerate(self.cords):
            for place, (letter, mark) in enumerate(strands):
                places[mark] = (cord, place)
        words = tuple("".join(letter for letter, mark in strands) for strands in self.cords)
        return (words, tuple(tuple(places[mark] for mark in band) for band in self.bands))

    def do(self, deed):
        """Does a deed and tells True, or tells False and leaves all as it is."""
        if deed[0] == "swap":
            return self.swap(deed[1], deed[2])
        if deed[1] not in range(len(self.cords)):
            return False
        strands = self.cords[deed[1]]
        if deed[0] == "turn":
            self.cords[deed[1]] = strands[1:] + strands[:1]
            return True
        if deed[0] == "out":
            return self.out(strands, deed[2])
        return self.put_in(strands, *deed[2:])

    def swap(self, name, number):
        if name not in names_of(self.yard):
            return False
        band = self.bands[names_of(self.yard).index(name)]
        if number not in range(len(band)) or number + 1 not in range(len(band)):
            return False
        band[number:number + 2] = band[number:number + 2][::-1]
        return True

    def out(self, strands, place):
        if place not in range(len(strands)) or place + 1 not in range(len(strands)):
            return False
        if strands[place][0].swapcase() != strands[place + 1][0]:
            return False
        gone = [mark for letter, mark in strands[place:place + 2]]
        del strands[place:place + 2]
        self.bands = [[mark for mark in band if mark not in gone] for band in self.bands]
        return True

    def put_in(self, strands, place, letter, number):
        if letter not in tuple(self.yard) or place not in range(len(strands) + 1):
            return False
        band = self.bands[names_of(self.yard).index(letter.lower())]
        if number not in range(len(band) + 1):
            return False
        new = [next(self.marks), next(self.marks)]
        strands[place:place] = [(letter, new[0]), (letter.swapcase(), new[1])]
        band[number:number] = new
        return True


def any_deed(chance, yard, near):
    def number():
        return chance.randrange(-1, near + 1)

    def text():
        return chance.choice(yard) if chance.random() < 0.95 else chance.choice(STRANGE)
    return chance.choice([("swap", text().lower(), number()), ("swap", text(), number()),
                          ("out", number(), number()), ("turn", number()),
                          ("in", number(), number(), text(), number())])


class TestDone(unittest.TestCase):
    def refused(self, at, yard, drawing, deeds):
        with self.assertRaises(MeetError) as caught:
            done(yard, drawing, deeds)
        self.assertIs(type(caught.exception), NoDeed, deeds)
        self.assertEqual(caught.exception.at, at, deeds)
        self.assertIs(type(caught.exception.at), int)

    def test_no_deeds(self):
        for yard in YARDS:
            self.assertEqual(done(yard, plain(yard, ()), []), plain(yard, ()))
            self.assertEqual(done(yard, plain(yard, ("", "")), []), plain(yard, ("", "")))
            for drawing in some_drawings(yard, 5):
                self.assertEqual(done(yard, drawing, []), drawing)

    def test_swap(self):
        drawing = (("aba", "A"), (((0, 0), (1, 0), (0, 2)), ((0, 1),)))
        self.assertEqual(done("abAB", drawing, [("swap", "a", 0)]), (drawing[0], (((1, 0), (0, 0), (0, 2)), ((0, 1),))))
        self.assertEqual(done("abAB", drawing, [("swap", "a", 1)]), (drawing[0], (((0, 0), (0, 2), (1, 0)), ((0, 1),))))
        self.assertEqual(done("abAB", drawing, [("swap", "a", 1), ("swap", "a", 1)]), drawing)

    def test_swap_that_cannot_be(self):
        drawing = (("aba", "A"), (((0, 0), (1, 0), (0, 2)), ((0, 1),)))
        for deed in (("swap", "a", 2), ("swap", "a", 3), ("swap", "a", -1), ("swap", "a", -2), ("swap", "a", 10 ** 30),
                     ("swap", "b", 0), ("swap", "b", -1), ("swap", "A", 0), ("swap", "c", 0), ("swap", "", 0),
                     ("swap", "ab", 0), ("swap", "abAB", 0), ("swap", "\u212a", 0)):
            self.refused(0, "abAB", drawing, [deed])
        self.refused(0, "aA", plain("aA", ()), [("swap", "a", 0)])
        self.refused(0, "aA", plain("aA", ("",)), [("swap", "a", 0)])

    def test_out(self):
        self.assertEqual(done("aA", (("aA",), (((0, 1), (0, 0)),)), [("out", 0, 0)]), (("",), ((),)))
        drawing = (("b", "abBaA"), (((1, 4), (1, 0), (1, 3)), ((1, 2), (0, 0), (1, 1))))
        self.assertEqual(done("abAB", drawing, [("out", 1, 1)]), (("b", "aaA"), (((1, 2), (1, 0), (1, 1)), ((0, 0),))))
        self.assertEqual(done("abAB", drawing, [("out", 1, 3)]), (("b", "abB"), (((1, 0),), ((1, 2), (0, 0), (1, 1)))))

    def test_out_that_cannot_be(self):
        for word in ("", "a", "aa", "ab", "abA"):
            for cord in (-1, 0, 1, 2):
                for place in (-2, -1, 0, 1, 2, 10 ** 30):
                    self.refused(0, "abAB", plain("abAB", (word,)), [("out", cord, place)])
        drawing = plain("abAB", ("AbBa", "b"))
        for cord, place in ((0, 0), (0, 2), (0, 3), (0, -1), (0, -3), (1, 0), (1, -1), (2, 1), (-2, 1), (-1, 1)):
            self.refused(0, "abAB", drawing, [("out", cord, place)])

    def test_in(self):
        told = (
            (("in", 0, 0, "a", 0), (("aA", ""), (((0, 0), (0, 1)), ()))),
            (("in", 1, 0, "A", 0), (("", "Aa"), (((1, 0), (1, 1)), ()))),
            (("in", 1, 0, "B", 0), (("", "Bb"), ((), ((1, 0), (1, 1))))))
        for deed, expected in told:
            self.assertEqual(done("abAB", plain("abAB", ("", "")), [deed]), expected)
        drawing = (("ab", "a"), (((1, 0), (0, 0)), ((0, 1),)))
        told = (
            (("in", 0, 0, "a", 0), (("aAab", "a"), (((0, 0), (0, 1), (1, 0), (0, 2)), ((0, 3),)))),
            (("in", 0, 1, "A", 1), (("aAab", "a"), (((1, 0), (0, 1), (0, 2), (0, 0)), ((0, 3),)))),
            (("in", 0, 2, "a", 2), (("abaA", "a"), (((1, 0), (0, 0), (0, 2), (0, 3)), ((0, 1),)))),
            (("in", 1, 1, "b", 1), (("ab", "abB"), (((1, 0), (0, 0)), ((0, 1), (1, 1), (1, 2))))),
            (("in", 1, 0, "B", 0), (("ab", "Bba"), (((1, 2), (0, 0)), ((1, 0), (1, 1), (0, 1))))))
        for deed, expected in told:
            self.assertEqual(done("abAB", drawing, [deed]), expected)

    def test_in_that_cannot_be(self):
        drawing = (("ab", "a"), (((1, 0), (0, 0)), ((0, 1),)))
        for deed in (("in", 0, -1, "a", 0), ("in", 0, 3, "a", 0), ("in", 1, 2, "a", 0), ("in", 2, 0, "a", 0),
                     ("in", -1, 0, "a", 0), ("in", 0, 0, "a", -1), ("in", 0, 0, "a", 3), ("in", 0, 0, "b", 2),
                     ("in", 0, 0, "B", 2), ("in", 0, 10 ** 30, "a", 0), ("in", 0, 0, "a", 10 ** 30),
                     ("in", 10 ** 30, 0, "a", 0)):
            self.refused(0, "abAB", drawing, [deed])
        for text in STRANGE + ("c", "C"):
            self.refused(0, "abAB", drawing, [("in", 0, 0, text, 0)])
        for text in ("\u212a", "kK", ""):
            self.refused(0, "kK", plain("kK", ("k",)), [("in", 0, 0, text, 0)])
            self.refused(0, "kK", plain("kK", ("kk",)), [("swap", text, 0)])

    def test_turn(self):
        drawing = (("abA", "b"), (((0, 2), (0, 0)), ((1, 0), (0, 1))))
        self.assertEqual(done("abAB", drawing, [("turn", 0)]), (("bAa", "b"), (((0, 1), (0, 2)), ((1, 0), (0, 0)))))
        self.assertEqual(done("abAB", drawing, [("turn", 1)]), drawing)
        self.assertEqual(done("abAB", drawing, [("turn", 0)] * 3), drawing)

    def test_turn_of_a_word_without_letters(self):
        self.assertEqual(done("aA", plain("aA", ("", "a")), [("turn", 0)]), plain("aA", ("", "a")))

    def test_turn_that_cannot_be(self):
        for cord in (-1, 2, 10 ** 30, -2):
            self.refused(0, "aA", plain("aA", ("", "a")), [("turn", cord)])
        self.refused(0, "aA", plain("aA", ()), [("turn", 0)])

    def test_the_first_that_cannot_be(self):
        drawing = plain("abAB", ("a", "b"))
        self.refused(1, "abAB", drawing, [("turn", 0), ("turn", 2), ("swap", "a", 0)])
        self.refused(2, "abAB", drawing, [("in", 0, 1, "b", 1), ("out", 0, 1), ("out", 0, 1), ("turn", 9)])
        self.refused(3, "abAB", drawing, [("in", 0, 0, "a", 0)] * 3 + [("out", 0, 6)])
        self.refused(30, "abAB", drawing, [("turn", 0)] * 30 + [("turn", -1)])

    def test_out_undoes_in(self):
        for yard in YARDS:
            for words, orders in some_drawings(yard, 4):
                for cord, word in enumerate(words):
                    for place in range(len(word) + 1):
                        for letter in yard:
                            size = len(orders[names_of(yard).index(letter.lower())])
                            deeds = [("in", cord, place, letter, size // 2), ("out", cord, place)]
                            self.assertEqual(done(yard, (words, orders), deeds), (words, orders))

    def test_rows_by_chance(self):
        chance = random.Random(17)
        refusals = 0
        for yard in YARDS:
            for drawing in some_drawings(yard, 40):
                marked = Marked(yard, drawing)
                deeds = []
                first_bad = None
                while len(deeds) < 30 and first_bad is None:
                    deed = any_deed(chance, yard, 6)
                    if marked.do(deed):
                        deeds.append(deed)
                    elif chance.random() < 0.02:
                        first_bad = len(deeds)
                        deeds.append(deed)
                if first_bad is None:
                    told = done(yard, drawing, deeds)
                    check_drawing_kind(self, told)
                    self.assertEqual(told, marked.drawing(), (yard, drawing, deeds))
                else:
                    refusals += 1
                    self.assertEqual(done(yard, drawing, deeds[:-1]), marked.drawing())
                    self.refused(first_bad, yard, drawing, deeds + [any_deed(chance, yard, 6)])
        self.assertGreater(refusals, 50)

    def test_rings_stay(self):
        chance = random.Random(18)
        for yard in YARDS:
            for drawing in some_drawings(yard, 20):
                marked = Marked(yard, drawing)
                deeds = [deed for deed in (any_deed(chance, yard, 5) for number in range(60)) if marked.do(deed)]
                told = done(yard, drawing, deeds)
                self.assertIs(look_drawing(yard, told), True)
                self.assertEqual([ring(word) for word in told[0]], [ring(word) for word in drawing[0]])

    def test_nothing_handed_in_is_changed(self):
        deeds = [("in", 0, 0, "a", 0), ("swap", "a", 1), ("turn", 0), ("out", 0, 0)]
        drawing = plain("abAB", ("Ab", ""))
        told = done("abAB", drawing, deeds[:3])
        self.assertEqual(drawing, plain("abAB", ("Ab", "")))
        self.refused(3, "abAB", drawing, deeds + [("turn", 7)])
        self.assertEqual(deeds, [("in", 0, 0, "a", 0), ("swap", "a", 1), ("turn", 0), ("out", 0, 0)])
        self.assertEqual(done("abAB", drawing, deeds[:3]), told)
        deeds.clear()
        self.assertEqual(told, (("AAba", ""), (((0, 3), (0, 1), (0, 0)), ((0, 2),))))


if __name__ == "__main__":
    unittest.main()
