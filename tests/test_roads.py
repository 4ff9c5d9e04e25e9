import random
import unittest

from mustmeet.deeds import done
from mustmeet.drawings import plain
from mustmeet.roads import road
from mustmeet.words import are_one
from samples import YARDS, about, all_drawings, begun_at, chance_shortest, some_cords, some_drawing, some_drawings


def grown(chance, yard, word, pairs):
    """A word of the same cord: pairs put in, and begun elsewhere."""
    for number in range(pairs):
        place = chance.randrange(len(word) + 1)
        letter = chance.choice(yard)
        word = word[:place] + letter + letter.swapcase() + word[place:]
        word = begun_at(word, chance.randrange(len(word)))
    return word


class TestRoad(unittest.TestCase):
    def leads(self, yard, one, other):
        deeds = road(yard, one, other)
        self.assertIs(type(deeds), list)
        for deed in deeds:
            self.assertIs(type(deed), tuple)
            kinds = {"swap": [str, str, int], "out": [str, int, int], "in": [str, int, int, str, int],
                     "turn": [str, int]}[deed[0]]
            self.assertEqual([type(part) for part in deed], kinds)
        self.assertEqual(done(yard, one, deeds), other, (yard, one, other))
        self.assertEqual(road(yard, one, other), deeds)

    def test_from_a_drawing_to_itself(self):
        for yard in YARDS:
            for drawing in [plain(yard, ()), plain(yard, ("",)), plain(yard, ("", ""))] + some_drawings(yard, 10):
                self.leads(yard, drawing, drawing)

    def test_told_drawings(self):
        self.leads("aA", plain("aA", ("",)), plain("aA", ("aA",)))
        self.leads("aA", plain("aA", ("aA",)), plain("aA", ("",)))
        self.leads("aA", plain("aA", ("aA",)), (("Aa",), (((0, 1), (0, 0)),)))
        self.leads("abAB", plain("abAB", ("abA",)), plain("abAB", ("b",)))
        self.leads("abAB", plain("abAB", ("b",)), plain("abAB", ("abA",)))
        self.leads("abAB", plain("abAB", ("ab", "a")), plain("abAB", ("ba", "baB")))
        self.leads("abAB", plain("abAB", ("abABbaab",)), plain("abAB", ("Bbbaba",)))

    def test_all_orders(self):
        every = list(all_drawings("abAB", ("aAb", "aB")))
        for one in every:
            for other in every:
                self.leads("abAB", one, other)

    def test_drawings_by_chance(self):
        chance = random.Random(19)
        for yard in YARDS:
            for words in some_cords(yard, 15, 12) + [("",), ("", yard[0])]:
                one = some_drawing(chance, yard, [grown(chance, yard, word, chance.randrange(3)) for word in words])
                other = some_drawing(chance, yard, [grown(chance, yard, word, chance.randrange(3)) for word in words])
                self.leads(yard, one, other)
                self.leads(yard, other, one)

    def test_24_strands(self):
        chance = random.Random(24)
        for yard in YARDS:
            words = [chance_shortest(chance, yard, 8) for cord in range(2)]
            one = some_drawing(chance, yard, [grown(chance, yard, word, 2) for word in words])
            other = some_drawing(chance, yard, [grown(chance, yard, word, 2) for word in words])
            self.assertEqual(sum(map(len, one[0])), 24)
            self.leads(yard, one, other)

    def test_cords_wound_out_of_sight(self):
        self.leads("abAB", plain("abAB", ("abbaBabABBA",)), plain("abAB", ("a",)))
        self.leads("abAB", plain("abAB", ("a",)), plain("abAB", ("abbaBabABBA",)))
        self.leads("abAB", plain("abAB", ("ab" * 100,)), plain("abAB", ("ba" * 100,)))

    def test_other_rings(self):
        for one, other in ((("a",), ("A",)), (("a",), ("b",)), (("ab",), ("aab",)), (("a",), ("",)), (("",), ("a",)),
                           (("a", "b"), ("b", "a")), (("a", "b"), ("a", "B")), (("aa",), ("a",)),
                           (("abAB",), ("baBA",)), (("a", "abAB"), ("a", ""))):
            self.assertIsNone(road("abAB", plain("abAB", one), plain("abAB", other)))

    def test_another_number_of_cords(self):
        for one, other in (((), ("",)), (("",), ()), (("a",), ("a", "a")), (("a", ""), ("a",)), (("a", "b"), ())):
            self.assertIsNone(road("abAB", plain("abAB", one), plain("abAB", other)))

    def test_none_just_where_a_cord_is_another_one(self):
        chance = random.Random(20)
        for yard in YARDS:
            for words in some_cords(yard, 10, 8):
                for other in (words[::-1], tuple(map(about, words)), (words[0] * 2,) + words[1:]):
                    same = all(are_one(pair[0], pair[1]) for pair in zip(words, other))
                    one = some_drawing(chance, yard, words)
                    another = some_drawing(chance, yard, other)
                    if same:
                        self.leads(yard, one, another)
                    else:
                        self.assertIsNone(road(yard, one, another))

    def test_each_list_is_a_new_one(self):
        one = plain("abAB", ("abA",))
        other = plain("abAB", ("b",))
        told = road("abAB", one, other)
        kept = list(told)
        told.clear()
        self.assertEqual(road("abAB", one, other), kept)
        self.assertEqual(road("abAB", one, one), [])
        road("abAB", one, one).append("more")
        self.assertEqual(road("abAB", one, one), [])
        self.assertEqual((one, other), (plain("abAB", ("abA",)), plain("abAB", ("b",))))


if __name__ == "__main__":
    unittest.main()
