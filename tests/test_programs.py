import random
import unittest

from mustmeet.errors import MeetError, NoName, TooLong, Twice
from mustmeet.programs import look_program, worked
from samples import SOME_LETTERS, about, some_program


class SlowLong(Exception):
    pass


def slow_short(word):
    pairs = [letter + letter.swapcase() for letter in SOME_LETTERS]
    while any(pair in word for pair in pairs):
        for pair in pairs:
            word = word.replace(pair, "")
    return word


def slow_word(term, known):
    """Points 32 and 33 read slowly: what a term comes to, each part looked at."""
    if term[0] == "walk":
        word = term[1]
    elif term[0] == "name":
        word = known[term[1]]
    elif term[0] == "then":
        word = slow_word(term[1], known) + slow_word(term[2], known)
    elif term[0] == "back":
        word = about(slow_word(term[1], known))
    elif term[0] == "again":
        part = slow_word(term[2], known)
        word = "".join(part for time in range(term[1]))
    else:
        one, other = slow_word(term[2], known), slow_word(term[3], known)
        word = ""
        for letter in one:
            if letter == term[1]:
                word += other
            elif letter == term[1].swapcase():
                word += about(other)
            else:
                word += letter
    word = slow_short(word)
    if len(word) > 60:
        raise SlowLong
    return word


def slow_worked(program):
    """The words, or the name of the first row that is too long."""
    known = {}
    for name, term in program:
        try:
            known[name] = slow_word(term, known)
        except SlowLong:
            return name
    return [known[name] for name, term in program]


def walk(word):
    return ("walk", word)


def called(name):
    return ("name", name)


class TestLookProgram(unittest.TestCase):
    def check_refused(self, program, kind, name):
        with self.assertRaises(kind, msg=program) as caught:
            look_program(program)
        self.assertIs(type(caught.exception), kind)
        self.assertIsInstance(caught.exception, MeetError)
        self.assertEqual(caught.exception.name, name, program)

    def test_let_by(self):
        for program in ((("a", walk("")),), (("a", walk("xyZ")), ("b", called("a"))),
                        (("one", walk("a")), ("two", ("for", "a", called("one"), called("one")))),
                        (("longer", walk("a" * 61)), ("b", ("again", 0, ("back", called("longer")))))):
            self.assertIs(look_program(program), True)
        chance = random.Random(32)
        for number in range(300):
            self.assertIs(look_program(some_program(chance)), True)

    def test_twice(self):
        self.check_refused((("a", walk("")), ("a", walk("b"))), Twice, "a")
        self.check_refused((("a", walk("")), ("b", walk("")), ("b", walk("")), ("a", walk(""))), Twice, "b")
        self.check_refused((("a", walk("")), ("b", walk("")), ("a", walk("")), ("b", walk(""))), Twice, "a")
        # A row's own name comes first, then the names in its term.
        self.check_refused((("a", walk("")), ("a", called("c"))), Twice, "a")

    def test_no_name(self):
        self.check_refused((("a", called("b")),), NoName, "b")
        self.check_refused((("a", called("a")),), NoName, "a")
        self.check_refused((("a", walk("")), ("b", called("c")), ("c", walk(""))), NoName, "c")
        self.check_refused((("a", walk("")), ("b", called("b")), ("b", walk(""))), NoName, "b")

    def test_row_by_row(self):
        self.check_refused((("a", walk("")), ("b", called("c")), ("a", walk(""))), NoName, "c")
        self.check_refused((("a", walk("")), ("a", walk("")), ("c", called("d"))), Twice, "a")
        self.check_refused((("a", called("z")), ("a", called("y"))), NoName, "z")

    def test_names_from_the_left(self):
        terms = {"x": ("then", called("x"), called("y")), "y": ("then", called("y"), called("x")),
                 "p": ("then", called("ok"), ("back", called("p"))),
                 "q": ("for", "a", called("q"), called("x")), "s": ("for", "s", called("ok"), called("s")),
                 "u": ("again", 0, called("u")), "v": ("then", ("then", walk("a"), called("v")), called("w")),
                 "w": ("for", "x", ("again", 6, ("then", walk(""), called("w"))), called("v")), "b": called("b")}
        for name, term in terms.items():
            self.check_refused((("ok", walk("a")), ("b", term)), NoName, name)

    def test_kinds_and_nothing_changed(self):
        program = (("a", walk("ab")), ("b", ("again", 2, called("a"))))
        for number in range(2):
            self.assertIs(look_program(program), True)
        self.assertEqual(program, (("a", walk("ab")), ("b", ("again", 2, called("a")))))


class TestWorked(unittest.TestCase):
    def check_too_long(self, program, name):
        with self.assertRaises(TooLong, msg=program) as caught:
            worked(program)
        self.assertIs(type(caught.exception), TooLong)
        self.assertIsInstance(caught.exception, MeetError)
        self.assertEqual(caught.exception.name, name, program)

    def test_told_terms(self):
        told = {
            walk("abA"): "abA", walk(""): "", walk("abBc"): "ac", ("then", walk("ab"), walk("Bc")): "ac",
            ("back", walk("abC")): "cBA", ("again", 0, walk("ab")): "", ("again", 1, walk("aA")): "",
            ("again", 3, walk("abA")): "abbbA", ("again", 6, walk("a")): "aaaaaa",
            ("for", "a", walk("abA"), walk("bc")): "bcbCB", ("for", "a", walk("bcb"), walk("zz")): "bcb",
            ("for", "a", walk("aba"), walk("")): "b", ("for", "a", walk("aB"), walk("b")): "",
            ("for", "a", walk("aab"), walk("a")): "aab", ("for", "a", walk("Ab"), walk("Ac")): "Cab",
            ("for", "b", walk("abA"), ("back", walk("ab"))): "aBAA",
            ("then", ("again", 2, walk("ab")), ("back", ("again", 2, walk("ab")))): "",
        }
        for term, expected in told.items():
            self.assertEqual(worked((("row", term),)), [expected], term)

    def test_names(self):
        program = (("a", walk("ab")), ("b", ("then", called("a"), called("a"))), ("c", ("back", called("b"))),
                   ("a" * 6, ("for", "a", called("c"), called("a"))), ("z", ("then", called("b"), called("c"))))
        self.assertEqual(worked(program), ["ab", "abab", "BABA", "BBABBA", ""])

    def test_read_slowly(self):
        chance = random.Random(33)
        found = {list: 0, str: 0}
        for number in range(3000):
            program = some_program(chance)
            expected = slow_worked(program)
            found[type(expected)] += 1
            if isinstance(expected, str):
                self.check_too_long(program, expected)
            else:
                self.assertEqual(worked(program), expected, program)
        self.assertGreater(min(found.values()), 200)

    def test_just_sixty_letters(self):
        self.assertEqual(worked((("a", walk("ab" * 30)),)), ["ab" * 30])
        self.check_too_long((("a", walk("ab" * 30 + "a")),), "a")
        self.assertEqual(worked((("a", ("again", 6, walk("abcabcabca"))),)), ["abcabcabca" * 6])
        self.check_too_long((("a", ("again", 6, walk("abcabcabcab"))),), "a")
        self.assertEqual(worked((("a", ("for", "a", walk("aaa"), walk("b" * 20))),)), ["b" * 60])
        self.check_too_long((("a", ("for", "a", walk("aaa"), walk("b" * 21))),), "a")
        self.assertEqual(worked((("a", ("then", walk("a" * 59), walk("b"))),)), ["a" * 59 + "b"])
        self.check_too_long((("a", ("then", walk("a" * 60), walk("b"))),), "a")

    def test_long_only_ahead_of_shortening(self):
        self.assertEqual(worked((("a", walk("aA" * 100 + "b")),)), ["b"])
        term = ("again", 6, walk("b" * 27 + "a" + "B" * 27))
        self.assertEqual(worked((("a", term),)), ["b" * 27 + "a" * 6 + "B" * 27])
        self.assertEqual(worked((("a", ("then", walk("a" * 60), walk("A" * 60))),)), [""])
        self.assertEqual(worked((("a", ("for", "a", walk("ab" * 30), walk("B"))),)), [""])

    def test_some_part_too_long(self):
        long = walk("ab" * 31)
        for term in (("again", 0, long), ("for", "c", walk("ab"), long), ("for", "a", long, walk("")),
                     ("then", long, ("back", long)), ("back", ("again", 0, ("then", walk("a"), long))),
                     ("again", 0, ("again", 6, walk("abcabcabcab")))):
            self.check_too_long((("a", walk("")), ("b", term)), "b")

    def test_the_first_row(self):
        long = walk("a" * 61)
        self.check_too_long((("a", walk("b")), ("z", long), ("b", long)), "z")
        self.check_too_long((("a", walk("a" * 50)), ("b", ("then", called("a"), called("a"))), ("c", called("b"))), "b")

    def test_rows_and_parts_somewhat_beyond(self):
        term = walk("a")
        for number in range(40):
            term = ("back", term)
        rows = tuple(("n" + letter, term) for letter in "abcdefghijkl")
        self.assertIs(look_program(rows), True)
        self.assertEqual(worked(rows), ["a"] * 12)

    def test_kinds_and_a_new_list(self):
        program = (("a", walk("ab")), ("b", ("again", 2, called("a"))))
        told = worked(program)
        self.assertIs(type(told), list)
        self.assertEqual([type(word) for word in told], [str, str])
        told.clear()
        self.assertEqual(worked(program), ["ab", "abab"])
        self.assertEqual(program, (("a", walk("ab")), ("b", ("again", 2, called("a")))))


if __name__ == "__main__":
    unittest.main()
