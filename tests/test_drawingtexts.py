import itertools
import re
import unittest

from mustmeet.drawings import look_drawing, plain
from mustmeet.drawingtexts import read_drawing, show_drawing
from mustmeet.errors import MeetError, NoText
from samples import YARDS, check_drawing_kind, names_of, some_drawings, strands_by_band

TOLD = (
    ("aA", ((), ((),)), "band a"),
    ("abAB", ((), ((), ())), "band a\nband b"),
    ("aAbBcCdD", ((), ((), (), (), ())), "band a\nband b\nband c\nband d"),
    ("aA", (("",), ((),)), "cord -\nband a"),
    ("aA", (("", ""), ((),)), "cord -\ncord -\nband a"),
    ("aA", (("a",), (((0, 0),),)), "cord a\nband a 0.0"),
    ("Aa", (("A",), (((0, 0),),)), "cord A\nband a 0.0"),
    ("zaZA", (("zA",), (((0, 1),), ((0, 0),))), "cord zA\nband a 0.1\nband z 0.0"),
    ("abAB", (("abA", "", "b"), (((0, 2), (0, 0)), ((2, 0), (0, 1)))),
     "cord abA\ncord -\ncord b\nband a 0.2 0.0\nband b 2.0 0.1"),
    ("aA", (("a" * 12,), (tuple((0, place) for place in range(11, -1, -1)),)),
     "cord aaaaaaaaaaaa\nband a 0.11 0.10 0.9 0.8 0.7 0.6 0.5 0.4 0.3 0.2 0.1 0.0"),
    ("aA", (("",) * 10 + ("a",), (((10, 0),),)), "cord -\n" * 10 + "cord a\nband a 10.0"),
)


def orders_written(name, strands):
    return ["band " + name + "".join(f" {cord}.{place}" for cord, place in order)
            for order in itertools.permutations(strands)]


def bad_row(yard, text):
    """The row that NoText is to tell, found by writing out all rows that may come next; None of a drawing's text."""
    rows = text.split("\n")
    words = []
    while len(words) < len(rows) and re.fullmatch(f"cord (-|[{yard}]+)", rows[len(words)]):
        words.append(rows[len(words)][5:].replace("-", ""))
    known = len(words)
    for name, strands in zip(names_of(yard), strands_by_band(yard, words)):
        if known >= len(rows) or rows[known] not in orders_written(name, strands):
            return known
        known += 1
    return None if known == len(rows) else known


def rows_changed(text):
    rows = text.split("\n")
    for k in range(len(rows)):
        yield rows[:k] + rows[k + 1:]
        yield rows[:k] + [rows[k]] + rows[k:]
        yield rows[:k]
        for put in ("", " ", "cord", "cord -", "cord a", "band", "band a", "band b", "band a 0.0", "Cord a", "row"):
            yield rows[:k] + [put] + rows[k:]
            yield rows[:k] + [put] + rows[k + 1:]
            yield rows + [put]
        for j in range(k):
            changed = list(rows)
            changed[j], changed[k] = rows[k], rows[j]
            yield changed


def words_changed(text):
    rows = text.split("\n")
    for k, row in enumerate(rows):
        parts = row.split(" ")
        for j in range(len(parts)):
            for changed in (parts[:j] + parts[j + 1:], parts[:j] + [parts[j]] + parts[j:]):
                yield rows[:k] + [" ".join(changed)] + rows[k + 1:]
            for put in ("", "-", "a", "b", "A", "c", "0.0", "0.1", "1.0", "00.0", "0.00", "0", "0.", ".0", "0.0.0", "0,0",
                        "-0.0", "0.-0", "+0.0", "0.0.", "0.9", "9.0", "cord", "band"):
                yield rows[:k] + [" ".join(parts[:j] + [put] + parts[j + 1:])] + rows[k + 1:]
                yield rows[:k] + [" ".join(parts[:j] + [put] + parts[j:])] + rows[k + 1:]


def signs_changed(text):
    for k in range(len(text) + 1):
        yield text[:k].split("\n")
        yield (text[:k] + text[k + 1:]).split("\n")
        for sign in "\n aAbBcz01.-":
            yield (text[:k] + sign + text[k:]).split("\n")
            yield (text[:k] + sign + text[k + 1:]).split("\n")


class TextCase(unittest.TestCase):
    def refused(self, row, yard, text):
        with self.assertRaises(MeetError) as caught:
            read_drawing(yard, text)
        self.assertIs(type(caught.exception), NoText, (yard, text))
        self.assertEqual(caught.exception.row, row, (yard, text))
        self.assertIs(type(caught.exception.row), int)


class TestShowAndRead(TextCase):
    def test_told_texts(self):
        for yard, drawing, text in TOLD:
            self.assertIs(look_drawing(yard, drawing), True)
            self.assertEqual(show_drawing(yard, drawing), text)
            self.assertIs(type(show_drawing(yard, drawing)), str)
            self.assertEqual(read_drawing(yard, text), drawing)
            check_drawing_kind(self, read_drawing(yard, text))

    def test_drawings_by_chance(self):
        for yard in YARDS:
            for drawing in some_drawings(yard, 30):
                text = show_drawing(yard, drawing)
                self.assertEqual(read_drawing(yard, text), drawing)
                check_drawing_kind(self, read_drawing(yard, text))
                self.assertEqual(show_drawing(yard, drawing), text)

    def test_unlike_drawings_have_unlike_texts(self):
        texts = {}
        for words in itertools.product(("", "a", "b", "aB", "aA"), repeat=2):
            first, second = strands_by_band("abAB", words)
            for one in itertools.permutations(first):
                for other in itertools.permutations(second):
                    text = show_drawing("abAB", (words, (one, other)))
                    self.assertEqual(texts.setdefault(text, (words, (one, other))), (words, (one, other)))
                    self.assertEqual(read_drawing("abAB", text), (words, (one, other)))

    def test_24_strands(self):
        words = ("abABab", "BBaaBA", "ababab", "AbAbAb")
        first, second = plain("abAB", words)[1]
        drawing = (words, (first[::-1], second[3:] + second[:3]))
        text = show_drawing("abAB", drawing)
        self.assertEqual(text.count("\n"), 5)
        self.assertEqual(text.count("."), 24)
        self.assertEqual(read_drawing("abAB", text), drawing)
        self.refused(4, "abAB", text.replace(" 3.4", "", 1))
        self.refused(5, "abAB", text[:-4])


class TestRefusedTexts(TextCase):
    def test_told_rows(self):
        told = (
            ("aA", "", 0),
            ("aA", "\n", 0),
            ("aA", "\nband a", 0),
            ("aA", "band a\n", 1),
            ("aA", "band a\nband a", 1),
            ("aA", "band b", 0),
            ("aA", "band", 0),
            ("aA", "band ", 0),
            ("aA", "band a ", 0),
            ("aA", " band a", 0),
            ("aA", "band  a", 0),
            ("aA", "band A", 0),
            ("aA", "Band a", 0),
            ("aA", "band a 0.0", 0),
            ("aA", "cord a", 1),
            ("aA", "cord a\ncord A", 2),
            ("aA", "cord -", 1),
            ("aA", "cord a\n", 1),
            ("aA", "cord", 0),
            ("aA", "cord ", 0),
            ("aA", "cord \nband a", 0),
            ("aA", "cord a a\nband a 0.0 0.1", 0),
            ("aA", "cord -a\nband a 0.0", 0),
            ("aA", "cord --\nband a", 0),
            ("aA", "cord ab\nband a 0.0", 0),
            ("aA", "cord a \nband a 0.0", 0),
            ("aA", "cord  a\nband a 0.0", 0),
            ("aA", "cord a\nband a", 1),
            ("aA", "cord a\nband a 0.0\n", 2),
            ("aA", "cord a\nband a 0.0\n\n", 2),
            ("aA", "cord a\n\nband a 0.0", 1),
            ("aA", "cord a\nband a 0.0\ncord a", 2),
            ("aA", "band a\ncord -", 1),
            ("aA", "cord a\nband a 0.0 0.0", 1),
            ("aA", "cord a\nband a 00.0", 1),
            ("aA", "cord a\nband a 0.00", 1),
            ("aA", "cord a\nband a +0.0", 1),
            ("aA", "cord a\nband a -0.0", 1),
            ("aA", "cord a\nband a 0.1", 1),
            ("aA", "cord a\nband a 1.0", 1),
            ("aA", "cord a\nband a 0.", 1),
            ("aA", "cord a\nband a 0.0 ", 1),
            ("aA", "cord a\nband a  0.0", 1),
            ("aA", "cord a\nband a 0 .0", 1),
            ("aA", "cord a\rband a 0.0", 0),
            ("aA", "cord a\nband a\t0.0", 1),
            ("aA", "cord aa\nband a 0.1 0.01", 1),
            ("abAB", "band a", 1),
            ("abAB", "band b\nband a", 0),
            ("abAB", "band a\nband a", 1),
            ("abAB", "band a\nband b\nband c", 2),
            ("abAB", "cord ab\nband a 0.0", 2),
            ("abAB", "cord ab\nband a 0.0\n", 2),
            ("abAB", "cord ab\nband a 0.1\nband b 0.0", 1),
            ("abAB", "cord ab\nband a 0.0\nband b 0.0", 2),
            ("abAB", "cord ab\nband a 0.0\ncord b\nband b 0.1", 2),
            ("abAB", "cord ab\ncord c\nband a 0.0\nband b 0.1", 1),
            ("abAB", "band a 0.0\ncord ab\nband b 0.1", 0),
            ("abAB", "cord b\nband b 0.0\nband a", 1),
            ("abcABC", "cord c\nband a\nband b", 3),
            ("bBaA", "band b\nband a", 0),
        )
        for yard, text, row in told:
            self.assertEqual(bad_row(yard, text), row, (yard, text))
            self.refused(row, yard, text)

    def test_figures_of_places_from_ten_on(self):
        text = "cord aaaaaaaaaaa\nband a 0.0 0.1 0.2 0.3 0.4 0.5 0.6 0.7 0.8 0.9 0.10"
        self.assertEqual(show_drawing("aA", read_drawing("aA", text)), text)
        for wrong in ("0.010", "0.1 0", "0.1", "0.11", "0.1_0", "0.10.", "00.10"):
            self.refused(1, "aA", text.replace("0.10", wrong))

    def test_by_a_yard_with_other_bands(self):
        text = "cord ab\nband a 0.0\nband b 0.1"
        self.assertEqual(read_drawing("abAB", text), read_drawing("BAba", text))
        self.refused(0, "aA", text)
        self.refused(0, "bcBC", text)
        self.refused(3, "abcABC", text)
        self.refused(1, "aA", "band a\nband b")
        self.refused(0, "bB", "band a\nband b")
        self.refused(2, "abdABD", "band a\nband b\nband c")

    def check_all(self, change):
        let_by = 0
        refused = 0
        for yard, words, orders in (("aA", (), ((),)), ("aA", ("aA", ""), (((0, 1), (0, 0)),)),
                                    ("abAB", ("ab", "A"), (((1, 0), (0, 0)), ((0, 1),))),
                                    ("abAB", ("", "bb"), ((), ((1, 1), (1, 0)))),
                                    ("cabCAB", ("ca",), (((0, 1),), (), ((0, 0),)))):
            text = show_drawing(yard, (words, orders))
            self.assertIsNone(bad_row(yard, text))
            for rows in change(text):
                changed = "\n".join(rows)
                row = bad_row(yard, changed)
                if row is None:
                    let_by += 1
                    self.assertEqual(show_drawing(yard, read_drawing(yard, changed)), changed)
                    self.assertIs(look_drawing(yard, read_drawing(yard, changed)), True)
                else:
                    refused += 1
                    self.refused(row, yard, changed)
        self.assertGreater(refused, 50)
        self.assertGreater(let_by, 0)

    def test_rows_changed(self):
        self.check_all(rows_changed)

    def test_words_changed(self):
        self.check_all(words_changed)

    def test_signs_changed(self):
        self.check_all(signs_changed)


if __name__ == "__main__":
    unittest.main()
