import itertools
import random
import unittest

from mustmeet.apart import full_set, lie_apart
from mustmeet.desk import Desk
from mustmeet.drawingtexts import read_drawing, show_drawing
from mustmeet.errors import MeetError, NoName, NoRow, NotLone, NoWord, NoYard
from mustmeet.least import least
from mustmeet.lone import is_lone
from mustmeet.meetings import meetings
from mustmeet.rims import rims
from mustmeet.taut import taut
from mustmeet.winding import wound
from mustmeet.words import ring, shortest
from samples import YARDS, fewest

# Rows that are none, whatever a desk keeps.
NO_ROWS = (
    "", " ", "yard", "yard ", "yard  abAB", "yard ab AB", " yard abAB", "yard abAB ", "Yard abAB", "yards abAB",
    "cord", "cord x", "cord x ", "cord  a", "cord x a b", "cord x a ", "cord X a", "cord x1 a", "cord longest a",
    "cord - a", "cord x " + "a" * 13, "cord x " + "-" * 13, "cord xX a", "cord a-b a",
    "rims x", "rims ", " rims", "rim", "Rims", "rims\n", "full x", "full ", "ful", "fulls",
    "ring", "ring ", "ring x y", "ring x ", "ring X", "ring -", "ring longest", "ring  x",
    "least", "least ", "least x  y", "least x y z u v", "least x Y", "least X y", "least x longest", "least x -",
    "lone", "lone ", "lone x y", "lone L", "apart", "apart x y z u v", "apart ", "apart x ", "apart x 1",
    "draw", "draw x y z u v", "draw X", "draw x\ny", "draw ",
    "wind", "wind n x", "wind n x y", "wind n x y 1 1", "wind n x y ", "wind n x  1", "wind N x y 1", "wind n X y 1",
    "wind n x Y 1", "wind longest x y 1", "wind n x y 4", "wind n x y -4", "wind n x y 9", "wind n x y -0",
    "wind n x y 01", "wind n x y +1", "wind n x y 10", "wind n x y -10", "wind n x y --1", "wind n x y -",
    "wind n x y a", "wind n x y 1.", "wind n x y 00", "wind 1 x y 1", "x", "ok", "yes", "least\tx", "ring\nx",
)
NO_TEXTS = (None, 0, 1, True, 3.5, b"rims", ("rims",), ["rims"], {}, {"rims": "x"}, ("ring", "x"), object())


def told_desk(*rows):
    desk = Desk()
    for row in rows:
        desk.say(row)
    return desk


class DeskCase(unittest.TestCase):
    def check_refused(self, desk, row, kind, field=None, value=None):
        with self.assertRaises(kind, msg=repr(row)) as caught:
            desk.say(row)
        self.assertIs(type(caught.exception), kind, row)
        self.assertIsInstance(caught.exception, MeetError)
        if field is not None:
            self.assertEqual(getattr(caught.exception, field), value, row)

    def answers(self, desk, names):
        """All that can be asked of a desk, refusals too."""
        told = []
        for row in ["rims", "full"] + ["ring " + name for name in names] + ["lone " + name for name in names]:
            try:
                told.append(desk.say(row))
            except MeetError as refusal:
                told.append((type(refusal), refusal.args))
        return told


class TestAnswers(DeskCase):
    def test_told_rows(self):
        desk = Desk()
        told = (
            ("yard abAB", "ok"), ("rims", "AbaB"), ("full", "A ABab"), ("cord x aabA", "ok"), ("ring x", "ab"),
            ("cord y b", "ok"), ("least x y", "1"), ("least x", "0"), ("least y y", "0"), ("least x y x y", "4"),
            ("lone x", "yes"), ("apart x y", "no"), ("apart x x", "yes"), ("wind z y x -2", "ok"), ("ring z", "ababb"),
            ("lone z", "yes"), ("cord e -", "ok"), ("ring e", "-"), ("lone e", "no"), ("apart e", "no"),
            ("apart x e", "no"), ("cord e aA", "ok"), ("ring e", "-"), ("cord w aabb", "ok"), ("lone w", "no"),
            ("least w", "1"), ("wind y y x 0", "ok"), ("ring y", "b"), ("wind n e x 3", "ok"), ("ring n", "-"),
            ("draw y", "cord b ; band a ; band b 0.0"), ("cord then bB", "ok"), ("ring then", "-"),
            ("yard aAbB", "ok"), ("rims", "A B ab"), ("full", "A B AB"), ("cord x ab", "ok"), ("ring x", "ab"),
        )
        for row, expected in told:
            self.assertEqual(desk.say(row), expected, row)

    def test_rims_and_full_sets(self):
        for yard in YARDS:
            desk = told_desk("yard " + yard)
            self.assertEqual(desk.say("rims"), " ".join(rims(yard)))
            self.assertEqual(desk.say("full"), " ".join(full_set(yard)))

    def test_words_by_chance(self):
        for yard in YARDS:
            chance = random.Random("desk " + yard)
            desk = told_desk("yard " + yard)
            words = {}
            for number in range(60):
                name = chance.choice(["a", "b", "least", "yard", "abcdef", "zz"])
                words[name] = "".join(chance.choices(yard, k=chance.randrange(13)))
                self.assertEqual(desk.say("cord " + name + " " + (words[name] or "-")), "ok")
                names = chance.choices(sorted(words), k=chance.randrange(1, 5))
                self.check_names(yard, desk, words, names)
                self.assertEqual(desk.say("ring " + name), ring(words[name]) or "-")
                self.assertEqual(desk.say("lone " + name), "yes" if is_lone(yard, words[name]) else "no")

    def check_names(self, yard, desk, words, names):
        shorts = tuple(shortest(words[name]) for name in names)
        row = " ".join(names)
        if sum(map(len, shorts)) > 24:
            for kind in ("least ", "apart ", "draw "):
                self.check_refused(desk, kind + row, NoRow)
            return
        self.assertEqual(desk.say("apart " + row), "yes" if lie_apart(yard, shorts) else "no")
        if "" in shorts:
            self.check_refused(desk, "least " + row, NoRow)
            self.check_refused(desk, "draw " + row, NoRow)
            return
        self.assertEqual(desk.say("least " + row), str(least(yard, shorts)))
        text = desk.say("draw " + row)
        self.assertEqual(text, show_drawing(yard, taut(yard, shorts)).replace("\n", " ; "))
        drawing = read_drawing(yard, text.replace(" ; ", "\n"))
        self.assertEqual(drawing[0], shorts)
        self.assertEqual(len(meetings(yard, drawing)), fewest(yard, shorts))

    def test_windings(self):
        for yard in YARDS:
            chance = random.Random("wind " + yard)
            desk = told_desk("yard " + yard)
            for number in range(30):
                word = "".join(chance.choices(yard, k=chance.randrange(7)))
                along = "".join(chance.choices(yard, k=chance.randrange(1, 5)))
                desk.say("cord word " + (word or "-"))
                desk.say("cord along " + along)
                times = chance.randrange(-3, 4)
                row = f"wind new word along {times}"
                if shortest(along) == "":
                    self.check_refused(desk, row, NoRow)
                elif not is_lone(yard, along):
                    self.check_refused(desk, row, NotLone)
                else:
                    self.assertEqual(desk.say(row), "ok")
                    self.assertEqual(desk.say("ring new"), wound(yard, shortest(along), times, word) or "-")

    def test_wound_into_a_name_that_is_kept(self):
        desk = told_desk("yard abAB", "cord x b", "cord y a")
        self.assertEqual([desk.say("wind x x y 1"), desk.say("ring x")], ["ok", "Ab"])
        self.assertEqual([desk.say("wind y x y 1"), desk.say("ring y")], ["ok", "AAb"])
        self.assertEqual([desk.say("wind y y y 3"), desk.say("ring y")], ["ok", "AAb"])

    def test_the_ring_of_what_was_wound_is_kept(self):
        desk = told_desk("yard abAB", "cord x bb", "cord y a", "wind x x y 2")
        self.assertEqual(desk.say("draw x").split(" ; ")[0], "cord AAbAAb")

    def test_a_cord_comes_in_the_place_of_another(self):
        desk = told_desk("yard abAB", "cord x a", "cord x b")
        self.assertEqual(desk.say("ring x"), "b")

    def test_names_twice_are_two_cords(self):
        desk = told_desk("yard aAbB", "cord x aB")
        self.assertEqual([desk.say("least x"), desk.say("least x x"), desk.say("least x x x x")], ["1", "4", "16"])
        self.assertEqual(desk.say("draw x x").split(" ; ")[:2], ["cord aB", "cord aB"])

    def test_a_yard_told_again_keeps_no_words(self):
        for text in ("abAB", "aAbB"):
            desk = told_desk("yard abAB", "cord x a")
            self.assertEqual(desk.say("yard " + text), "ok")
            self.check_refused(desk, "ring x", NoName, "name", "x")
            self.assertEqual(desk.say("rims"), " ".join(rims(text)))

    def test_desks_beside_one_another(self):
        one = told_desk("yard abAB", "cord x a", "cord y b")
        other = told_desk("yard aAbB")
        self.check_refused(other, "ring x", NoName, "name", "x")
        other.say("cord x ab")
        self.check_refused(Desk(), "rims", NoRow)
        self.assertEqual([one.say("rims"), one.say("ring x"), one.say("ring y")], ["AbaB", "a", "b"])
        self.assertEqual([other.say("rims"), other.say("ring x")], ["A B ab", "ab"])

    def test_kinds_and_asked_again(self):
        desk = told_desk("yard abAB", "cord x aab", "cord y b")
        for row in ("rims", "full", "ring x", "least x y", "lone x", "apart x y", "draw x y", "wind z x y 1"):
            told = desk.say(row)
            self.assertIs(type(told), str, row)
            self.assertEqual(desk.say(row), told)


class TestRefusals(DeskCase):
    def test_no_rows(self):
        for desk in (Desk(), told_desk("yard abAB"), told_desk("yard abAB", "cord x a", "cord y b", "cord n a")):
            before = self.answers(desk, ("x", "y", "n"))
            for row in NO_ROWS + NO_TEXTS:
                self.check_refused(desk, row, NoRow)
            self.assertEqual(self.answers(desk, ("x", "y", "n")), before)

    def test_no_yard(self):
        told = {"a": 0, "ab": 0, "abA": 1, "aa": 1, "a1A": 1, "aAbBcCdDeE": 8, "aAbB-": 4, "-": 0, "aA\n": 2,
                "abABab": 4}
        for desk in (Desk(), told_desk("yard aA", "cord x a")):
            before = self.answers(desk, ("x",))
            for text, at in told.items():
                self.check_refused(desk, "yard " + text, NoYard, "at", at)
            self.assertEqual(self.answers(desk, ("x",)), before)

    def test_no_yard_is_kept(self):
        desk = Desk()
        for row in ("rims", "full", "cord x a", "cord x -", "cord x !!", "ring x", "least x y", "lone x", "apart x",
                    "draw x", "wind n x y 1"):
            self.check_refused(desk, row, NoRow)
        # A yard that was refused isn't kept.
        self.check_refused(desk, "yard abA", NoYard, "at", 1)
        self.check_refused(desk, "rims", NoRow)
        self.assertEqual(desk.say("yard aA"), "ok")
        self.check_refused(desk, "ring x", NoName, "name", "x")

    def test_no_word(self):
        desk = told_desk("yard abAB", "cord x ab")
        for word, at in (("c", 0), ("abc", 2), ("aC", 1), ("a-", 1), ("--", 0), ("-a", 0), ("ab1", 2),
                         ("a" * 11 + "c", 11), ("a\n", 1), ("'a'", 0)):
            self.check_refused(desk, "cord x " + word, NoWord, "at", at)
            self.check_refused(desk, "cord y " + word, NoWord, "at", at)
        self.assertEqual(desk.say("ring x"), "ab")
        self.check_refused(desk, "ring y", NoName, "name", "y")
        self.check_refused(desk, "cord x " + "c" * 13, NoRow)

    def test_words_of_just_twelve_signs(self):
        desk = told_desk("yard abAB", "cord x " + "ab" * 6)
        self.assertEqual(desk.say("ring x"), "ab" * 6)

    def test_no_name(self):
        desk = told_desk("yard abAB", "cord x a", "cord e -", "cord l " + "ab" * 6, "cord q aa")
        told = {"ring y": "y", "lone z": "z", "least y": "y", "least x y z": "y", "least z y x": "z",
                "apart x x z y": "z", "draw y x": "y", "wind n y z 1": "y", "wind n x z 1": "z", "wind n y x 1": "y",
                "wind x n x 1": "n",
                # Names that lack come ahead of words that can't be taken.
                "least e y": "y", "draw e y": "y", "least l l l y": "y", "apart l l l y": "y", "wind n l y 1": "y",
                "wind n y e 1": "y", "wind n y q 1": "y"}
        for row, name in told.items():
            self.check_refused(desk, row, NoName, "name", name)
        self.check_refused(desk, "ring n", NoName, "name", "n")
        self.assertEqual(desk.say("wind n x x 1"), "ok")

    def test_no_letters(self):
        desk = told_desk("yard abAB", "cord x a", "cord e -", "cord f abBA")
        for name in ("e", "f"):
            for row in (f"least {name}", f"draw {name}", f"least x {name}", f"draw {name} x", f"wind n x {name} 1",
                        f"wind n x {name} 0", f"wind n {name} {name} 1"):
                self.check_refused(desk, row, NoRow)
            self.assertEqual(desk.say(f"apart x {name}"), "no")
            self.assertEqual(desk.say(f"wind n {name} x 1"), "ok")
            self.assertEqual(desk.say("ring n"), "-")

    def test_more_than_twenty_four_letters(self):
        desk = told_desk("yard abAB", "cord l " + "ab" * 6, "cord x a", "cord h " + "aab" * 2, "cord e -",
                         "cord s " + "aA" * 6)
        for kind in ("least", "apart", "draw"):
            desk.say(kind + " l l")
            desk.say(kind + " h h h h")
            self.check_refused(desk, kind + " l l x", NoRow)
            self.check_refused(desk, kind + " x l l", NoRow)
            self.check_refused(desk, kind + " l l l l", NoRow)
        self.assertEqual(desk.say("apart l l s e"), "no")

    def test_long_words_that_were_wound(self):
        desk = told_desk("yard abAB", "cord x bbbbba", "cord y aaab", "wind z x y 3")
        self.assertGreater(len(desk.say("ring z")), 24)
        for kind in ("least", "apart", "draw"):
            self.check_refused(desk, kind + " z", NoRow)
        self.assertEqual(desk.say("lone z"), desk.say("lone x"))
        self.check_refused(desk, "wind x z y 1", NoRow)

    def test_bounds_of_windings(self):
        desk = told_desk("yard abAB", "cord six abbaab", "cord seven abbaabb", "cord long aAabbaabbBBb",
                         "cord four aaab", "cord five aaaab", "cord b Abaaa", "cord a a", "cord q aa", "cord p aabb")
        self.assertEqual(desk.say("wind n six four 1"), "ok")
        self.assertEqual(desk.say("wind n long a 1"), "ok")
        self.assertEqual(desk.say("wind n a b 1"), "ok")
        self.check_refused(desk, "wind n seven a 1", NoRow)
        self.check_refused(desk, "wind n a five 1", NoRow)
        for row in ("wind n a q 1", "wind n a q 0", "wind n a p -1", "wind n six q 3"):
            self.check_refused(desk, row, NotLone)
        # What can't be taken for its size comes ahead of what isn't lone.
        self.check_refused(desk, "wind n seven q 1", NoRow)

    def test_what_is_refused_changes_nothing(self):
        names = ("x", "y", "e", "q", "n")
        desk = told_desk("yard abAB", "cord x abb", "cord y a", "cord e -", "cord q aa")
        before = self.answers(desk, names)
        rows = ("yard abA", "yard abAB ", "cord x c", "cord n ac", "wind n x q 1", "wind x x q 1", "wind n x e 1",
                "wind y n x 1", "wind n x y 4", "least e", "draw x e", "ring m") + NO_ROWS + NO_TEXTS
        for row in rows:
            self.assertIsNotNone(self.kind_of(desk, row), row)
            self.assertEqual(self.answers(desk, names), before, row)

    def kind_of(self, desk, row):
        try:
            desk.say(row)
        except MeetError as refusal:
            return type(refusal)
        return None

    def test_each_row_is_one_of_all_kinds(self):
        desk = told_desk("yard abAB", "cord x ab", "cord y b")
        for times in ("-3", "-2", "-1", "0", "1", "2", "3"):
            self.assertEqual(desk.say("wind n x y " + times), "ok")
        for names in itertools.product("xy", repeat=4):
            self.assertEqual(desk.say("apart " + " ".join(names)), "yes" if len(set(names)) == 1 else "no")


if __name__ == "__main__":
    unittest.main()
