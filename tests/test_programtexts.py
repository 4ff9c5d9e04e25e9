import random
import re
import unittest

from mustmeet.errors import MeetError, NoText
from mustmeet.programs import look_program
from mustmeet.programtexts import read_program, show_program
from samples import some_program

NAME = r"(?!(?:then|back|again|for)(?![a-z]))[a-z]{1,6}(?![a-z])"


def is_term(text):
    """Point 34 read slowly: what stands within is taken for a sign that no text has, from the inside out."""
    text = re.sub(r"'[A-Za-z]*'", "\x03", text)
    text = re.sub(r"\((?:then|for [a-z]) ", "\x02", text)
    text = re.sub(r"\((?:back|again [0-6]) ", "\x01", text)
    text = re.sub(r"(?<![a-z])" + NAME, "\x03", text)
    before = None
    while text != before:
        before = text
        text = text.replace("\x01\x03)", "\x03").replace("\x02\x03 \x03)", "\x03")
    return text == "\x03"


def is_program_row(row):
    name, equals, term = row.partition(" = ")
    return bool(re.fullmatch(NAME, name)) and is_term(term)


def first_bad_row(text):
    for number, row in enumerate(text.split("\n")):
        if not is_program_row(row):
            return number
    return None


def check_term_kind(case, term):
    case.assertIs(type(term), tuple)
    kinds = {"walk": (str, str), "name": (str, str), "then": (str, tuple, tuple), "back": (str, tuple),
             "again": (str, int, tuple), "for": (str, str, tuple, tuple)}
    case.assertEqual(tuple(type(part) for part in term), kinds[term[0]])
    for part in term:
        if isinstance(part, tuple):
            check_term_kind(case, part)


TOLD = {
    "a = ''": (("a", ("walk", "")),),
    "abcdef = 'abA'": (("abcdef", ("walk", "abA")),),
    "walk = name": (("walk", ("name", "name")),),
    "a = (then 'a' b)": (("a", ("then", ("walk", "a"), ("name", "b"))),),
    "a = (back '')\nb = (again 0 a)\nb = (again 6 b)": (
        ("a", ("back", ("walk", ""))), ("b", ("again", 0, ("name", "a"))), ("b", ("again", 6, ("name", "b")))),
    "a = (for z (for a x y) (back (then 'Zz' 'Q')))": (
        ("a", ("for", "z", ("for", "a", ("name", "x"), ("name", "y")),
               ("back", ("then", ("walk", "Zz"), ("walk", "Q"))))),),
    "a = (again 3 (again 3 a))": (("a", ("again", 3, ("again", 3, ("name", "a")))),),
    "thens = (then thens fo)": (("thens", ("then", ("name", "thens"), ("name", "fo"))),),
}

NO_TERMS = ("", " ", "a b", "A", "aB", "abcdefg", "then", "back", "again", "for", "'a", "a'", "'a'b", "'a''b'", "'a b'",
            "'-'", "'1'", "''a", "\"a\"", "(a)", "('a')", "()", "(", ")", "(then a)", "(then a b c)", "(then a b",
            "then a b)", "(then  a b)", "(then a  b)", "(then a b )", "( then a b)", "(thena b)", "(Then a b)",
            "(then a b))", "((then a b))", "(then'a' b)", "(then 'a''b')", "(then (back a)b)", "(back)", "(back )",
            "(back a b)", "(back a", "(back for)", "(again a)", "(again 7 a)", "(again 9 a)", "(again 10 a)",
            "(again 00 a)", "(again -1 a)", "(again  1 a)", "(again 1a)", "(again 1 a b)", "(again x a)", "(again 1)",
            "(again 1 )", "(for a b)", "(for A a b)", "(for ab a b)", "(for 1 a b)", "(for a a b c)", "(for  a b)",
            "(for a a)", "(for 'a' b c)", "(walk 'a')", "(name a)", "(walk a)", "a=b", "= a", "a = b", "~", "a\t",
            "(then a b)x", "(then a b) ", " (then a b)", "'a' ", " 'a'", "1", "-", "#")


class TestShowProgram(unittest.TestCase):
    def test_told_programs(self):
        for text, program in TOLD.items():
            self.assertEqual(show_program(program), text)
            self.assertIs(type(show_program(program)), str)

    def test_nothing_handed_in_is_changed(self):
        program = (("a", ("back", ("walk", "ab"))),)
        for number in range(2):
            self.assertEqual(show_program(program), "a = (back 'ab')")
        self.assertEqual(program, (("a", ("back", ("walk", "ab"))),))


class TestReadProgram(unittest.TestCase):
    def check_refused(self, text, row):
        with self.assertRaises(NoText, msg=repr(text)) as caught:
            read_program(text)
        self.assertIs(type(caught.exception), NoText)
        self.assertIsInstance(caught.exception, MeetError)
        self.assertEqual(caught.exception.row, row, repr(text))
        self.assertIs(type(caught.exception.row), int)

    def check_kind(self, program):
        self.assertIs(type(program), tuple)
        for row in program:
            self.assertEqual((type(row), len(row), type(row[0])), (tuple, 2, str))
            check_term_kind(self, row[1])

    def test_told_programs(self):
        for text, program in TOLD.items():
            self.assertEqual(read_program(text), program)
            self.check_kind(read_program(text))

    def test_programs_by_chance(self):
        chance = random.Random(34)
        for number in range(1500):
            program = some_program(chance)
            text = show_program(program)
            self.assertIsNone(first_bad_row(text), text)
            self.assertEqual(read_program(text), program)
            self.check_kind(read_program(text))

    def test_not_let_by(self):
        chance = random.Random(32)
        for number in range(300):
            program = some_program(chance)
            # Turned about, names come ahead of their rows; doubled, they come twice.
            for other in (program[::-1], program + program):
                self.assertEqual(read_program(show_program(other)), other)
        self.assertIs(look_program(read_program("a = 'b'")), True)
        self.assertEqual(read_program("a = a\na = zzzzzz"), (("a", ("name", "a")), ("a", ("name", "zzzzzz"))))

    def test_signs_changed_by_chance(self):
        chance = random.Random(600)
        found = 0
        signs = "abzA01679() ='\n-~[thenbackagainfor"
        for number in range(6000):
            text = show_program(some_program(chance)[-2:])
            place = chance.randrange(len(text) + 1)
            cut = place + chance.randrange(3)
            text = text[:place] + "".join(chance.choices(signs, k=chance.randrange(3))) + text[cut:]
            row = first_bad_row(text)
            if row is None:
                found += 1
                self.assertEqual(show_program(read_program(text)), text)
            else:
                self.check_refused(text, row)
        self.assertGreater(found, 500)
        self.assertLess(found, 5500)

    def test_no_signs(self):
        self.check_refused("", 0)

    def test_no_terms(self):
        for term in NO_TERMS:
            self.check_refused("a = " + term, 0)
            self.check_refused("a = 'a'\nb = " + term + "\nb = 'b'", 1)
            self.check_refused("a = (back " + term + ")", 0)
            self.check_refused("a = (then 'a' " + term + ")", 0)
            self.check_refused("a = (for b " + term + " 'a')", 0)

    def test_no_names(self):
        for name in ("", " ", "A", "aB", "a1", "abcdefg", "then", "back", "again", "for", "a b", " a", "a ", "'a'", "-",
                     "(back a)"):
            self.check_refused(name + " = 'a'", 0)
            self.check_refused("a = 'a'\nb = 'b'\n" + name + " = 'a'", 2)

    def test_no_rows(self):
        for row in ("", " ", "a", "a =", "a = ", "a ='a'", "a= 'a'", "a='a'", "a  = 'a'", "a =  'a'", "a == 'a'",
                    "= 'a'", " = 'a'", "a = = 'a'", "a = 'a' = 'a'", "a = a = a", "a : 'a'", "a = 'a';", "a 'a'"):
            self.check_refused(row, 0)
            self.check_refused("a = 'a'\n" + row, 1)
            self.check_refused(row + "\na = 'a'", 0)

    def test_line_feeds(self):
        self.check_refused("\n", 0)
        self.check_refused("a = 'a'\n", 1)
        self.check_refused("\na = 'a'", 0)
        self.check_refused("a = 'a'\n\nb = 'b'", 1)
        self.check_refused("a =\n'a'", 0)
        self.check_refused("a = (then 'a'\n'b')", 0)
        self.check_refused("a = 'a\nb'", 0)

    def test_the_first_row_that_is_none(self):
        self.check_refused("a = 'a'\nb = (\nc\n", 1)
        self.check_refused("a\nb", 0)

    def test_as_long_as_may_be(self):
        word = "ab" * 290
        self.assertEqual(read_program("a = '" + word + "'"), (("a", ("walk", word)),))
        rows = "\n".join(["a = b"] * 100)
        self.assertEqual(read_program(rows), (("a", ("name", "b")),) * 100)
        deep = "(back " * 84 + "a" + ")" * 84
        program = read_program("a = " + deep)
        self.assertEqual(show_program(program), "a = " + deep)
        self.check_refused("a = " + "(back " * 99, 0)
        self.check_refused("a = " + deep + ")", 0)
        self.check_refused("a = " + "(then " * 50 + "a" + " b)" * 49, 0)

    def test_asked_again(self):
        for text, program in TOLD.items():
            self.assertEqual(read_program(text), read_program(text))


if __name__ == "__main__":
    unittest.main()
