"""Drawings written as texts, and read from them."""

from mustmeet.drawings import strands_in
from mustmeet.errors import NoText
from mustmeet.yards import bands, foreign_sign

CORD = "cord"
BAND = "band"
NO_LETTERS = "-"


def strand_text(strand):
    cord = strand[0]
    place = strand[1]
    return f"{cord}.{place}"


def cord_row(word):
    return " ".join([CORD, word if word != "" else NO_LETTERS])


def band_row(band, order):
    return " ".join([BAND, band] + [strand_text(strand) for strand in order])


def show_drawing(yard, drawing):
    rows = [cord_row(word) for word in drawing[0]]
    for band, order in zip(bands(yard), drawing[1]):
        rows.append(band_row(band, order))
    return "\n".join(rows)


def read_cord(yard, row):
    parts = row.split(" ")
    if len(parts) != 2 or parts[0] != CORD or parts[1] == "":
        return None
    if parts[1] == NO_LETTERS:
        return ""
    if foreign_sign(yard, parts[1]) is not None:
        return None
    return parts[1]


def read_words(yard, rows):
    words = []
    for row in rows:
        word = read_cord(yard, row)
        if word is None:
            break
        words.append(word)
    return tuple(words)


def read_order(words, band, row):
    # Each strand is looked up by its own text, so no other way to write its figures is let by.
    strands = {}
    for strand in strands_in(words, band):
        strands[strand_text(strand)] = strand
    parts = row.split(" ")
    if parts[:2] != [BAND, band] or sorted(parts[2:]) != sorted(strands):
        return None
    return tuple([strands[part] for part in parts[2:]])


def read_drawing(yard, text):
    rows = text.split("\n")
    words = read_words(yard, rows)
    orders = []
    row = len(words)
    for band in bands(yard):
        order = read_order(words, band, rows[row]) if row < len(rows) else None
        if order is None:
            raise NoText(row)
        orders.append(order)
        row += 1
    if row < len(rows):
        raise NoText(row)
    return (words, tuple(orders))
