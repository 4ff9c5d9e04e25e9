"""Letters, their contraries, words turned about, and names."""

# Written out, since Python's own tests of signs also take letters of other alphabets.
SMALL = "abcdefghijklmnopqrstuvwxyz"
LETTERS = "abcdefghijklmnopqrstuvwxyzABCDEFGHIJKLMNOPQRSTUVWXYZ"
LONGEST_NAME = 6


def is_letter(sign):
    return sign in LETTERS


def is_name(text):
    return 1 <= len(text) <= LONGEST_NAME and all([sign in SMALL for sign in text])


def contrary(letter):
    if letter.islower():
        return letter.upper()
    return letter.lower()


def turned(word):
    return "".join([contrary(letter) for letter in reversed(word)])
