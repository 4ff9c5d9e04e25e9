"""Point 3: what is promised for every yard and all cords, over yards by chance."""

import random
import unittest

from mustmeet.apart import full_set, lie_apart, most
from mustmeet.deeds import done
from mustmeet.errors import NoDeed
from mustmeet.filled import filled
from mustmeet.forced import forced
from mustmeet.least import between, least, own
from mustmeet.lone import lone_loops
from mustmeet.meetings import meetings
from mustmeet.nets import crossed, rank
from mustmeet.papers import paper_holds, paper_of
from mustmeet.pieces import pieces
from mustmeet.rims import handles
from mustmeet.roads import road
from mustmeet.sides import sides
from mustmeet.taut import taut
from mustmeet.winding import undone, wound, wound_all
from mustmeet.words import are_one, loop, ring, root, shortest
from samples import about, begun_at, chance_shortest, fewest, some_drawing


def chance_yard(chance):
    names = chance.sample("abcdmxyz", chance.randrange(1, 5))
    return "".join(chance.sample(names + [name.upper() for name in names], 2 * len(names)))


def chance_deed(chance, yard, drawing):
    cord = chance.randrange(len(drawing[0]))
    size = len(drawing[0][cord])
    kind = chance.choice(("swap", "out", "in", "turn"))
    if kind == "swap":
        return ("swap", chance.choice(yard).lower(), chance.randrange(6))
    if kind == "out":
        return ("out", cord, chance.randrange(6))
    if kind == "in":
        return ("in", cord, chance.randrange(size + 1), chance.choice(yard), chance.randrange(4))
    return ("turn", cord)


def drawn_about(chance, yard, drawing, times):
    for number in range(times):
        try:
            drawing = done(yard, drawing, [chance_deed(chance, yard, drawing)])
        except NoDeed:
            pass
    return drawing


class TestPromises(unittest.TestCase):
    def yards(self, how_many):
        chance = random.Random(how_many)
        for number in range(how_many):
            yield chance, chance_yard(chance)

    def lone_word(self, chance, yard):
        word = chance.choice(lone_loops(yard, 3))
        return begun_at(chance.choice((word, about(word))), chance.randrange(len(word)))

    def test_no_drawing_has_fewer_meetings(self):
        for chance, yard in self.yards(80):
            many = chance.randrange(1, 4)
            words = tuple(chance_shortest(chance, yard, chance.randrange(1, 6)) for cord in range(many))
            fewest_told = least(yard, words)
            self.assertEqual(fewest_told, fewest(yard, words))
            self.assertEqual(len(meetings(yard, taut(yard, words))), fewest_told)
            self.assertIs(paper_holds(yard, words, paper_of(yard, words)), True)
            self.assertEqual(list(paper_of(yard, words)[1]), forced(yard, words))
            for number in range(5):
                drawing = drawn_about(chance, yard, some_drawing(chance, yard, words), 20)
                self.assertGreaterEqual(len(meetings(yard, drawing)), fewest_told)

    def test_cords_that_are_one(self):
        for chance, yard in self.yards(80):
            words = tuple("".join(chance.choices(yard, k=chance.randrange(5))) for cord in range(2))
            one = some_drawing(chance, yard, words)
            other = drawn_about(chance, yard, one, 25)
            self.assertTrue(all(are_one(*pair) for pair in zip(words, other[0])))
            self.assertEqual(done(yard, one, road(yard, one, other)), other)
            third = some_drawing(chance, yard, (words[0], "".join(chance.choices(yard, k=3))))
            if ring(third[0][1]) != ring(words[1]):
                self.assertIsNone(road(yard, one, third))

    def test_rounds(self):
        for chance, yard in self.yards(60):
            word = root(chance_shortest(chance, yard, chance.randrange(1, 5)))[0]
            for times in range(1, 4):
                self.assertEqual(own(yard, word * times), times * times * own(yard, word) + times - 1)

    def test_loops_that_lie_apart(self):
        for chance, yard in self.yards(80):
            words = ()
            for number in range(6):
                word = self.lone_word(chance, yard)
                if len(words) < 4 and lie_apart(yard, words + (word,)):
                    words += (word,)
            told = filled(yard, words)
            self.assertEqual(len(told), most(yard))
            self.assertEqual(most(yard), 2 * (len(yard) // 2) - 1 - handles(yard))
            self.assertTrue(lie_apart(yard, tuple(told)) and lie_apart(yard, tuple(full_set(yard))))
            self.assertEqual({loop(word) for word in words} - set(told), set())
            for cords in (words, tuple(told), ()):
                cut = pieces(yard, taut(yard, cords))
                self.assertEqual(sum(2 - len(piece[1]) - 2 * piece[0] for piece in cut), 1 - len(yard) // 2)
            # No other loop lies apart from them all.
            for word in lone_loops(yard, 2):
                self.assertEqual(lie_apart(yard, tuple(told) + (word,)), word in told)

    def test_sides(self):
        for chance, yard in self.yards(80):
            words = tuple("".join(chance.choices(yard, k=chance.randrange(6))) for cord in range(2))
            drawing = some_drawing(chance, yard, words)
            for number in range(4):
                self.assertEqual(sides(yard, drawing, 0, 1), crossed(yard, words[0], words[1]))
                drawing = drawn_about(chance, yard, drawing, 8)
            self.assertEqual(rank(yard), 2 * handles(yard))

    def test_windings(self):
        for chance, yard in self.yards(80):
            one, other = self.lone_word(chance, yard), self.lone_word(chance, yard)
            word, second = (chance_shortest(chance, yard, chance.randrange(1, 6)) for cord in range(2))
            times = chance.choice((-3, -2, -1, 1, 2, 3))
            there = wound(yard, one, times, word)
            self.assertEqual(between(yard, there, wound(yard, one, times, second)), between(yard, word, second))
            self.assertEqual(wound_all(yard, undone(((one, times),)), there), ring(word))
            many = between(yard, one, other)
            self.assertEqual(between(yard, other, wound(yard, one, times, other)), abs(times) * many * many)
            if many == 0:
                row = ((one, times), (other, 1))
                self.assertEqual(wound_all(yard, row, word), wound_all(yard, row[::-1], word))
            if many == 1:
                way = chance.choice((1, -1))
                row = ((one, way), (other, way), (one, way))
                self.assertEqual(wound_all(yard, row, word), wound_all(yard, (row[1], row[0], row[1]), word))

    def test_what_is_told_may_be_handed_on(self):
        for chance, yard in self.yards(40):
            along = self.lone_word(chance, yard)
            row = ((self.lone_word(chance, yard), 2), (along, 1))
            lone = [wound_all(yard, row, word) for word in full_set(yard)]
            self.assertTrue(lie_apart(yard, tuple(lone)))
            self.assertEqual(filled(yard, tuple(lone)), sorted(map(loop, lone), key=lambda word: (len(word), word)))
            drawing = taut(yard, tuple(lone))
            self.assertEqual(meetings(yard, drawing), [])
            cut = pieces(yard, drawing)
            self.assertEqual(sum(2 - len(piece[1]) - 2 * piece[0] for piece in cut), 1 - len(yard) // 2)
            for rim in cut[-1][1]:
                self.assertEqual(shortest(rim), rim)
                self.assertTrue(lie_apart(yard, (rim, about(rim))))


if __name__ == "__main__":
    unittest.main()
