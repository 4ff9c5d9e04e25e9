import copy
import pickle
import unittest

from mustmeet import errors
from mustmeet.errors import MeetError

FIELDS = {
    "NoYard": ("at",),
    "NoWord": ("at",),
    "NoDrawing": ("word", "at"),
    "NoText": ("row",),
    "NoDeed": ("at",),
    "NoPaper": ("word",),
    "NoCut": (),
    "NotApart": (),
    "NotLone": (),
    "Twice": ("name",),
    "NoName": ("name",),
    "TooLong": ("name",),
    "NoRow": (),
}

NUMBERS = (0, 1, 7, -1, -30, 10 ** 40, 10 ** 5000)
TEXTS = ("", "a", "words", "two words", "row\nrow", "{name}", "\u00e9", "x" * 1000)


def refusal(name):
    return getattr(errors, name)


def values_of(field):
    return NUMBERS if field in ("at", "row") else TEXTS


def arguments(fields):
    if not fields:
        return [()]
    return [(value,) + rest for value in values_of(fields[0]) for rest in arguments(fields[1:])]


class TestErrors(unittest.TestCase):
    def test_meet_error_stands_under_value_error(self):
        self.assertEqual(MeetError.__bases__, (ValueError,))

    def test_there_are_just_these_refusals(self):
        found = {name for name, value in vars(errors).items()
                 if isinstance(value, type) and value is not MeetError}
        self.assertEqual(found, set(FIELDS))

    def test_each_stands_right_under_meet_error(self):
        for name in FIELDS:
            self.assertEqual(refusal(name).__bases__, (MeetError,), name)

    def test_fields_keep_what_it_is_made_with(self):
        for name, fields in FIELDS.items():
            for values in arguments(fields):
                error = refusal(name)(*values)
                self.assertEqual(vars(error), dict(zip(fields, values)), name)
                for field, value in zip(fields, values):
                    self.assertIs(getattr(error, field), value)

    def test_another_count_of_values_is_not_taken(self):
        for name, fields in FIELDS.items():
            if fields:
                with self.assertRaises(TypeError):
                    refusal(name)()
                with self.assertRaises(TypeError):
                    refusal(name)(*([1] * (len(fields) + 1)))

    def test_taken_by_its_own_class_and_those_above_alone(self):
        for name, fields in FIELDS.items():
            error = refusal(name)(*arguments(fields)[0])
            for taker in (refusal(name), MeetError, ValueError):
                with self.assertRaises(taker) as caught:
                    raise error
                self.assertIs(caught.exception, error)
            for other in FIELDS:
                self.assertEqual(isinstance(error, refusal(other)), other == name, (name, other))

    def test_two_of_a_class_keep_fields_of_their_own(self):
        for name, fields in FIELDS.items():
            if fields:
                one = refusal(name)(*arguments(fields)[0])
                other = refusal(name)(*arguments(fields)[-1])
                self.assertNotEqual(vars(one), vars(other))

    def test_a_copy_has_the_same_fields(self):
        for name, fields in FIELDS.items():
            error = refusal(name)(*arguments(fields)[-1])
            for twin in (copy.copy(error), pickle.loads(pickle.dumps(error))):
                self.assertIs(type(twin), type(error))
                self.assertEqual(vars(twin), vars(error))


if __name__ == "__main__":
    unittest.main()
