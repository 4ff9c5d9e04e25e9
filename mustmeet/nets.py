"""What is told by the bands alone: the nets of words, how often they cross, and the table of a yard."""

from mustmeet.letters import contrary
from mustmeet.yards import bands, goes_round


def net(yard, word):
    return tuple([word.count(band) - word.count(contrary(band)) for band in bands(yard)])


def crosses(yard, band, other):
    start = contrary(band)
    if band == other:
        return 0
    capital_ahead = goes_round(yard, start, contrary(other), band)
    if capital_ahead == goes_round(yard, start, other, band):
        return 0
    return 1 if capital_ahead else -1


def table_row(yard, band):
    return tuple([crosses(yard, band, other) for other in bands(yard)])


def table(yard):
    return tuple([table_row(yard, band) for band in bands(yard)])


def crossed(yard, one, other):
    other_net = net(yard, other)
    total = 0
    for many, row in zip(net(yard, one), table(yard)):
        total += many * sum([number * entry for number, entry in zip(other_net, row)])
    return total


def row_with(rows, column):
    for number, row in enumerate(rows):
        if row[column] != 0:
            return number
    return None


def cleared(row, by, column):
    # Both are taken so often that no fraction comes of it.
    return [by[column] * one - row[column] * other for one, other in zip(row, by)]


def rank(yard):
    rows = [list(row) for row in table(yard)]
    many = 0
    for column in range(len(bands(yard))):
        number = row_with(rows, column)
        if number is not None:
            by = rows.pop(number)
            rows = [cleared(row, by, column) for row in rows]
            many += 1
    return many
