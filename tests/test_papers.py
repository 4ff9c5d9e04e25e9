import random
import unittest

from mustmeet.drawings import plain
from mustmeet.errors import MeetError, NoPaper
from mustmeet.forced import forced
from mustmeet.meetings import meetings
from mustmeet.papers import paper_holds, paper_of
from samples import YARDS, about, all_drawings, begun_at, check_drawing_kind, fewest, some_cords, some_drawing


class TestPaperOf(unittest.TestCase):
    def test_it_holds(self):
        for yard in YARDS:
            for words in [()] + some_cords(yard, 20):
                paper = paper_of(yard, words)
                self.assertIs(paper_holds(yard, words, paper), True)
                self.assertEqual(paper[0][0], words)
                self.assertEqual(paper[1], tuple(forced(yard, words)))
                self.assertEqual(len(meetings(yard, paper[0])), fewest(yard, words))
                self.assertEqual(paper_of(yard, words), paper)

    def test_kinds(self):
        paper = paper_of("aAbB", ("aBaB", "ab"))
        self.assertIs(type(paper), tuple)
        self.assertEqual(len(paper), 2)
        check_drawing_kind(self, paper[0])
        self.assertIs(type(paper[1]), tuple)
        self.assertGreater(len(paper[1]), 3)
        for thing in paper[1]:
            self.assertIs(type(thing), tuple)
            self.assertEqual([type(part) for part in thing], [int] * 5 + [str])

    def test_no_cords(self):
        self.assertEqual(paper_of("aA", ()), (((), ((),)), ()))


class TestPaperHolds(unittest.TestCase):
    def refused(self, word, yard, words, paper):
        with self.assertRaises(MeetError) as caught:
            paper_holds(yard, words, paper)
        self.assertIs(type(caught.exception), NoPaper, paper)
        self.assertEqual(caught.exception.word, word, paper)
        self.assertIs(type(caught.exception.word), str)

    def test_whoever_wrote_it(self):
        for yard, words in (("abAB", ("ab", "aB")), ("aAbB", ("abAB",)), ("aA", ("aaa", "A")),
                            ("aBcAbC", ("abC", "c"))):
            things = tuple(forced(yard, words))
            held = 0
            for drawing in all_drawings(yard, words):
                if len(meetings(yard, drawing)) == fewest(yard, words):
                    held += 1
                    self.assertIs(paper_holds(yard, words, (drawing, things)), True)
                else:
                    self.refused("many", yard, words, (drawing, things))
            self.assertGreater(held, 0)

    def test_drawing(self):
        drawing, things = paper_of("abAB", ("ab", "a"))
        for bad in ((("ab", "a"), ()), (("ab", "a"), ((), ())), (("ab", "c"), drawing[1]), (("ab",), drawing[1]),
                    (("ab", "a"), drawing[1] + ((),)), (("ab", "a"), (drawing[1][0], ((0, 1), (0, 1)))),
                    (("ab", "a"), (((0, 0), (-1, 0)), ((0, 1),))), ((), ()), (("ab", "a", "\u00e9"), drawing[1])):
            self.refused("drawing", "abAB", ("ab", "a"), (bad, things))
        self.refused("drawing", "abAB", (), (((), ()), ()))

    def test_words(self):
        words = ("ab", "a")
        things = tuple(forced("abAB", words))
        for other in ((), ("ab",), ("a", "ab"), ("ba", "a"), ("ab", "a", ""), ("ab", "A"), ("abbB", "a"), ("", "")):
            self.refused("words", "abAB", words, (plain("abAB", other), things))
        self.refused("words", "abAB", (), (plain("abAB", ("",)), ()))

    def test_order(self):
        words = ("aBaB", "Ab")
        drawing, things = paper_of("aAbB", words)
        self.assertGreater(len(things), 2)
        for bad in (things[::-1], things[1:] + things[:1], things + things[-1:], things[:1] + things,
                    things[:2] + things[1:], things + things):
            self.refused("order", "aAbB", words, (drawing, bad))

    def test_forced(self):
        words = ("aabb", "ab")
        drawing, things = paper_of("aAbB", words)
        self.assertIs(paper_holds("aAbB", words, (drawing, things)), True)
        for c, i, d, j, m, word in things:
            kept = [thing for thing in things if thing != (c, i, d, j, m, word)]
            for strange in ((c, i, d, j, m + 1, word), (c, i, d, j, m, word + "s"), (c, i, d, j, m, ""),
                            (c + 2, i, d + 2, j, m, word), (c, i + 4, d, j, m, word), (-1, -1, -1, -1, -1, word),
                            (c, i, d, j, 10 ** 30, word), (c, -10 ** 30, d, j, m, word)):
                self.refused("forced", "aAbB", words, (drawing, tuple(sorted(kept + [strange]))))
                self.refused("forced", "aAbB", words, (drawing, tuple(sorted(list(things) + [strange]))))

    def test_of_one_cord_against_itself_just_the_lesser(self):
        words = ("abAB",)
        drawing, things = paper_of("aAbB", words)
        self.assertEqual(things, ((0, 0, 0, 2, 0, "across"), (0, 0, 0, 2, 1, "against"), (0, 1, 0, 3, 1, "against")))
        self.refused("forced", "aAbB", words, (drawing, things[:2] + ((0, 3, 0, 1, 1, "against"),)))
        self.refused("forced", "aAbB", words, (drawing, things + ((0, 3, 0, 1, 1, "against"),)))

    def test_many(self):
        for yard in YARDS:
            for words in some_cords(yard, 8):
                drawing, things = paper_of(yard, words)
                for number in range(len(things)):
                    self.refused("many", yard, words, (drawing, things[:number] + things[number + 1:]))
                if things:
                    self.refused("many", yard, words, (drawing, ()))

    def test_rounds_are_counted(self):
        counts = {}
        for drawing in all_drawings("aA", ("aaaa",)):
            many = len(meetings("aA", drawing))
            counts[many] = True
            if many == 3:
                self.assertIs(paper_holds("aA", ("aaaa",), (drawing, ())), True)
            else:
                self.refused("many", "aA", ("aaaa",), (drawing, ()))
        self.assertEqual(min(counts), 3)
        self.assertGreater(len(counts), 1)

    def test_more_meetings_than_must_be(self):
        chance = random.Random(24)
        seen = 0
        for yard in YARDS:
            for words in some_cords(yard, 20):
                things = tuple(forced(yard, words))
                drawing = some_drawing(chance, yard, words)
                if len(meetings(yard, drawing)) != fewest(yard, words):
                    seen += 1
                    self.refused("many", yard, words, (drawing, things))
        self.assertGreater(seen, 100)

    def test_of_several_faults_the_one_that_is_due_first(self):
        words = ("aBaB", "Ab")
        drawing, things = paper_of("aAbB", words)
        strange = (9, 9, 9, 9, 9, "strange")
        bad_drawing = (("c",), ((), ()))
        self.refused("drawing", "aAbB", words, (bad_drawing, (strange, strange)))
        self.refused("drawing", "aAbB", words, (bad_drawing, things))
        self.refused("words", "aAbB", words, (plain("aAbB", ("a",)), (strange, strange)))
        self.refused("words", "aAbB", words, (plain("aAbB", words[::-1]), things[::-1]))
        self.refused("order", "aAbB", words, (drawing, (strange,) + things))
        self.refused("order", "aAbB", words, (drawing, things + (strange, strange)))
        self.refused("order", "aAbB", words, (drawing, things[1:2] + things[:1]))
        self.refused("forced", "aAbB", words, (drawing, (strange,)))
        self.refused("forced", "aAbB", words, (drawing, things + (strange,)))
        self.refused("many", "aAbB", words, (drawing, things[:1]))

    def test_no_paper_holds_for_other_cords(self):
        for yard in YARDS:
            for words in some_cords(yard, 4, 10):
                paper = paper_of(yard, words)
                for other in (words + (words[0],), (about(words[0]),) + words[1:], words[1:]):
                    self.refused("words", yard, other, paper)
                if begun_at(words[0], 1) != words[0]:
                    self.refused("words", yard, (begun_at(words[0], 1),) + words[1:], paper)

    def test_nothing_handed_in_is_changed(self):
        words = ("aBaB", "Ab")
        paper = paper_of("aAbB", words)
        for number in range(2):
            self.assertIs(paper_holds("aAbB", words, paper), True)
            self.refused("many", "aAbB", words, (paper[0], ()))
        self.assertEqual(paper, paper_of("aAbB", ("aBaB", "Ab")))


if __name__ == "__main__":
    unittest.main()
