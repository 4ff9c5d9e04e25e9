"""Letters, their contraries, and words turned about."""

# Written out, since Python's own tests of signs also take letters of other alphabets.
LETTERS = "abcdefghijklmnopqrstuvwxyzABCDEFGHIJKLMNOPQRSTUVWXYZ"


def is_letter(sign):
    return sign in LETTERS


def contrary(letter):
    if letter.islower():
        return letter.upper()
    return letter.lower()


def turned(word):
    return "".join([contrary(letter) for letter in reversed(word)])
