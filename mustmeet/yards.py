"""Yards and words looked at, the order of ends round a yard, and yards within."""

from mustmeet.errors import NoWord, NoYard
from mustmeet.letters import contrary, is_letter

MOST_ENDS = 8


def bad_sign(text):
    for at, sign in enumerate(text):
        if not is_letter(sign) or sign in text[:at] or at >= MOST_ENDS:
            return at
    return None


def half_band(text):
    for at, letter in enumerate(text):
        if contrary(letter) not in text:
            return at
    return None


def look_yard(text):
    if text == "":
        raise NoYard(0)
    at = bad_sign(text)
    if at is None:
        at = half_band(text)
    if at is not None:
        raise NoYard(at)
    return True


def foreign_sign(yard, text):
    for at, sign in enumerate(text):
        if sign not in yard:
            return at
    return None


def look_word(yard, text):
    at = foreign_sign(yard, text)
    if at is not None:
        raise NoWord(at)
    return True


def bands(yard):
    return "".join(sorted([letter for letter in yard if letter.islower()]))


def steps_round(yard, start, end):
    return (yard.find(end) - yard.find(start)) % len(yard)


def goes_round(yard, x, y, z):
    return steps_round(yard, x, y) < steps_round(yard, x, z)


def within(yard, some):
    return "".join([letter for letter in yard if letter.lower() in some])
