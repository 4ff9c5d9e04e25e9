import itertools
import unittest

from mustmeet.drawings import look_drawing, plain
from mustmeet.errors import MeetError, NoDrawing
from samples import YARDS, check_drawing_kind, names_of, some_drawings, strands_by_band


class TestLookDrawing(unittest.TestCase):
    def refused(self, word, at, yard, drawing):
        with self.assertRaises(MeetError) as caught:
            look_drawing(yard, drawing)
        self.assertIs(type(caught.exception), NoDrawing, drawing)
        self.assertEqual((caught.exception.word, caught.exception.at), (word, at), drawing)
        self.assertIs(type(caught.exception.word), str)
        self.assertIs(type(caught.exception.at), int)

    def test_let_by(self):
        for yard, drawing in (
                ("aA", ((), ((),))),
                ("abAB", ((), ((), ()))),
                ("aAbBcCdD", ((), ((), (), (), ()))),
                ("aA", (("",), ((),))),
                ("aA", (("", "", ""), ((),))),
                ("aA", (("a",), (((0, 0),),))),
                ("aA", (("A",), (((0, 0),),))),
                ("aA", (("", "aA", ""), (((1, 1), (1, 0)),))),
                ("BAba", (("ab",), (((0, 0),), ((0, 1),)))),
                ("abAB", (("abA", "b"), (((0, 2), (0, 0)), ((1, 0), (0, 1)))))):
            self.assertIs(look_drawing(yard, drawing), True)

    def test_any_order_of_the_strands(self):
        for order in itertools.permutations([(0, 0), (0, 1), (1, 0), (1, 1)]):
            self.assertIs(look_drawing("aA", (("aA", "AA"), (order,))), True)

    def test_drawings_by_chance(self):
        for yard in YARDS:
            for drawing in some_drawings(yard, 20):
                self.assertIs(look_drawing(yard, drawing), True)

    def test_24_strands(self):
        words = ("abABab", "BBaaBA", "ababab", "AbAbAb")
        first, second = strands_by_band("abAB", words)
        self.assertIs(look_drawing("abAB", (words, (tuple(first[::-1]), tuple(second[3:] + second[:3])))), True)
        self.refused("strands", 1, "abAB", (words, (tuple(first), tuple(second[1:]))))

    def test_words(self):
        told = ((("c",), 0), (("a", "abc"), 1), (("a", "", "-"), 2), ((" a",), 0), (("a", "c", "d"), 1),
                (("a", "b", "\u00e9", "a"), 2), (("abABabABabABc",), 0), (("C",), 0), (("a\n",), 0))
        for words, at in told:
            self.refused("words", at, "abAB", (words, ((), ())))

    def test_bands(self):
        for orders in ((), ((),), ((), (), ()), ((), (), (), ())):
            self.refused("bands", len(orders), "abAB", ((), orders))
        self.refused("bands", 1, "abAB", (("a",), (((0, 0),),)))
        self.refused("bands", 3, "abAB", (("a",), (((0, 0),), (), ())))
        self.refused("bands", 0, "aA", (("",), ()))
        self.refused("bands", 2, "aA", (("",), ((), ())))

    def test_a_strand_left_out(self):
        self.refused("strands", 0, "abAB", (("ab",), ((), ((0, 1),))))
        self.refused("strands", 1, "abAB", (("ab",), (((0, 0),), ())))
        self.refused("strands", 0, "aA", (("aaa",), (((0, 0), (0, 2)),)))

    def test_a_strand_twice(self):
        self.refused("strands", 0, "abAB", (("ab",), (((0, 0), (0, 0)), ((0, 1),))))
        self.refused("strands", 1, "abAB", (("ab",), (((0, 0),), ((0, 1), (0, 1)))))
        self.refused("strands", 0, "aA", (("aa",), (((0, 0), (0, 0)),)))
        self.refused("strands", 0, "aA", (("aa",), (((0, 0), (0, 1), (0, 0)),)))

    def test_numbers_that_are_none(self):
        for pair in ((0, -1), (-1, 0), (1, 0), (0, 2), (0, 10 ** 30), (-1, -1), (2, 0)):
            self.refused("strands", 0, "abAB", (("ab",), ((pair,), ((0, 1),))))
            self.refused("strands", 0, "abAB", (("ab",), (((0, 0), pair), ((0, 1),))))
            self.refused("strands", 1, "abAB", (("ab",), (((0, 0),), (pair,))))
        self.refused("strands", 0, "aA", ((), (((0, 0),),)))
        self.refused("strands", 0, "aA", (("", "a"), (((0, 0),),)))

    def test_a_strand_in_another_band(self):
        self.refused("strands", 0, "abAB", (("ab",), (((0, 1),), ((0, 0),))))
        self.refused("strands", 0, "abAB", (("ab",), (((0, 0), (0, 1)), ())))
        self.refused("strands", 1, "abAB", (("ab",), (((0, 0),), ((0, 1), (0, 0)))))

    def test_bands_by_the_alphabet(self):
        self.assertIs(look_drawing("bBaA", (("a",), (((0, 0),), ()))), True)
        self.refused("strands", 0, "bBaA", (("a",), ((), ((0, 0),))))
        self.refused("strands", 2, "cCbBaA", (("a",), (((0, 0),), (), ((0, 0),))))

    def test_of_several_faults_the_one_that_is_due_first(self):
        self.refused("words", 1, "abAB", (("a", "c"), ()))
        self.refused("words", 0, "abAB", (("c",), (((5, 5),), ((5, 5),))))
        self.refused("words", 0, "abAB", (("ac",), ((), (), ())))
        self.refused("words", 1, "abAB", (("a", "c", "d"), (((5, 5),),)))
        self.refused("bands", 1, "abAB", (("ab",), (((0, 1),),)))
        self.refused("bands", 3, "abAB", (("ab",), (((0, 1),), ((0, 1),), ((9, 9),))))
        self.refused("strands", 0, "abAB", (("ab",), (((0, 5),), ())))
        self.refused("strands", 1, "abcABC", (("abc",), (((0, 0),), (), ())))

    def test_all_orders_of_few_pairs(self):
        pairs = [(0, 0), (0, 1), (1, 0), (0, -1)]
        orders = [order for size in range(4) for order in itertools.product(pairs, repeat=size)]
        right = strands_by_band("abAB", ("aA", "b"))
        for one in orders:
            if sorted(one) != right[0]:
                self.refused("strands", 0, "abAB", (("aA", "b"), (one, ((1, 0),))))
            if sorted(one) != right[1]:
                self.refused("strands", 1, "abAB", (("aA", "b"), (((0, 1), (0, 0)), one)))

    def test_asked_again(self):
        drawing = (("abA", "b"), (((0, 2), (0, 0)), ((1, 0), (0, 1))))
        self.assertIs(look_drawing("abAB", drawing), True)
        self.assertIs(look_drawing("abAB", drawing), True)
        self.refused("strands", 1, "abAB", (("abA",), drawing[1]))
        self.refused("strands", 1, "abAB", (("abA",), drawing[1]))


class TestPlain(unittest.TestCase):
    def test_told_words(self):
        told = {
            ("aA", ()): ((), ((),)),
            ("abAB", ()): ((), ((), ())),
            ("aA", ("", "")): (("", ""), ((),)),
            ("aA", ("a",)): (("a",), (((0, 0),),)),
            ("aA", ("A",)): (("A",), (((0, 0),),)),
            ("abAB", ("ab", "", "Ba")): (("ab", "", "Ba"), (((0, 0), (2, 1)), ((0, 1), (2, 0)))),
            ("bBaA", ("ba",)): (("ba",), (((0, 1),), ((0, 0),))),
            ("abcABC", ("aAc",)): (("aAc",), (((0, 0), (0, 1)), (), ((0, 2),))),
        }
        for (yard, words), expected in told.items():
            self.assertEqual(plain(yard, words), expected)

    def test_places_of_two_figures_are_sorted_as_numbers(self):
        self.assertEqual(plain("aA", ("a" * 12,))[1], (tuple((0, place) for place in range(12)),))

    def test_sorted_and_let_by(self):
        for yard in YARDS:
            for words, orders in some_drawings(yard, 20):
                drawing = plain(yard, words)
                check_drawing_kind(self, drawing)
                self.assertEqual(drawing[0], words)
                self.assertEqual(list(drawing[1]), [tuple(strands) for strands in strands_by_band(yard, words)])
                self.assertEqual(len(drawing[1]), len(names_of(yard)))
                self.assertIs(look_drawing(yard, drawing), True)
                self.assertEqual(plain(yard, words), drawing)


if __name__ == "__main__":
    unittest.main()
