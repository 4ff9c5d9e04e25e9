"""Programs written as texts, and read from them."""

from mustmeet.errors import NoText
from mustmeet.letters import SMALL, is_letter, is_name

# How many terms stand in each of these, and which sign stands ahead of them.
COUNTS = {"then": 2, "back": 1, "again": 1, "for": 2}
SIGNS = {"again": "0123456", "for": "abcdefghijklmnopqrstuvwxyz"}
STROKE = "'"
IS = " = "


def term_text(term):
    if term[0] == "walk":
        return STROKE + term[1] + STROKE
    if term[0] == "name":
        return term[1]
    count = COUNTS[term[0]]
    parts = [term_text(part) for part in term[-count:]]
    signs = [str(sign) for sign in term[1:-count]]
    return "(" + " ".join([term[0]] + signs + parts) + ")"


def show_program(program):
    return "\n".join([row[0] + IS + term_text(row[1]) for row in program])


def is_row_name(text):
    return is_name(text) and text not in COUNTS


# Each of these reads from a place of a row on: told is what stands there and the place behind it, None where
# nothing of the kind does.

def read_walk(row, start):
    end = row.find(STROKE, start + 1)
    word = row[start + 1:end]
    if end < 0 or not all([is_letter(sign) for sign in word]):
        return None
    return (("walk", word), end + 1)


def read_name(row, start):
    end = start
    while end < len(row) and row[end] in SMALL:
        end += 1
    if not is_row_name(row[start:end]):
        return None
    return (("name", row[start:end]), end)


def read_kind(row, start):
    for kind in COUNTS:
        if row.startswith("(" + kind + " ", start):
            return (kind, start + 1 + len(kind))
    return None


def read_sign(kind, row, start):
    sign = row[start + 1:start + 2]
    if sign == "" or sign not in SIGNS[kind]:
        return None
    return (int(sign) if kind == "again" else sign, start + 2)


def read_terms(count, row, start):
    terms = []
    end = start
    for number in range(count):
        read = read_term(row, end + 1) if row[end:end + 1] == " " else None
        if read is None:
            return None
        terms.append(read[0])
        end = read[1]
    return (terms, end)


def read_made(row, start):
    read = read_kind(row, start)
    if read is None:
        return None
    term = [read[0]]
    if read[0] in SIGNS:
        read = read_sign(read[0], row, read[1])
        if read is None:
            return None
        term.append(read[0])
    read = read_terms(COUNTS[term[0]], row, read[1])
    if read is None or row[read[1]:read[1] + 1] != ")":
        return None
    return (tuple(term + read[0]), read[1] + 1)


def read_term(row, start):
    if row.startswith(STROKE, start):
        return read_walk(row, start)
    if row.startswith("(", start):
        return read_made(row, start)
    return read_name(row, start)


def read_row(row):
    parts = row.partition(IS)
    read = read_term(parts[2], 0)
    if not is_row_name(parts[0]) or read is None or read[1] < len(parts[2]):
        return None
    return (parts[0], read[0])


def read_program(text):
    rows = []
    for number, row in enumerate(text.split("\n")):
        read = read_row(row)
        if read is None:
            raise NoText(number)
        rows.append(read)
    return tuple(rows)
