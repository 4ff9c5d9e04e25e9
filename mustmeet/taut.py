"""Drawings with no more meetings than must be."""

from mustmeet.drawings import strands_in
from mustmeet.forced import corner_ends
from mustmeet.letters import turned
from mustmeet.words import ring, root
from mustmeet.yards import bands, steps_round


def corner_steps(yard, word, place):
    ends = corner_ends(word, place)
    return steps_round(yard, ends[0], ends[1])


# A cord gone along one way. Of a cord and the same one turned about just one leads, whatever word tells it:
# by its way sides are told where cords run side by side for ever.
class Way:
    def __init__(self, yard, word):
        self.steps = [corner_steps(yard, word, place) for place in range(len(word))]
        self.root_size = len(root(word)[0])
        self.leads = ring(word) < ring(turned(word))


# A strand as it is when one goes through its band by the small letter.
class Seen:
    def __init__(self, strand, way, place):
        self.strand = strand
        self.way = way
        self.place = place


def side_of(seen):
    # Cords that run side by side for ever lie one beside the other, and so do the rounds of each: then a cord
    # crosses its own rounds just where its last one comes back to the first, one time less than it has rounds.
    way = seen.way
    cord = seen.strand[0]
    if way.leads:
        return (cord, seen.place // way.root_size)
    return (-cord, -((len(way.steps) - 1 - seen.place) // way.root_size))


def comes_ahead(one, other):
    # The nearest parting, ahead or back, says who comes first: so two strands change sides once at most along
    # what they share, and all strands of a band stand in one order.
    steps = one.way.steps
    others = other.way.steps
    for far in range(one.way.root_size + other.way.root_size):
        for shift in (far + 1, -far):
            step = steps[(one.place + shift) % len(steps)]
            other_step = others[(other.place + shift) % len(others)]
            if step != other_step:
                return step < other_step
    return side_of(one) < side_of(other)


def number_among(order, seen):
    low = 0
    high = len(order)
    while low < high:
        middle = (low + high) // 2
        if comes_ahead(order[middle], seen):
            low = middle + 1
        else:
            high = middle
    return low


def seen_strand(words, ways, strand):
    word = words[strand[0]]
    place = strand[1]
    if word[place].islower():
        return Seen(strand, ways[strand[0]][0], place)
    return Seen(strand, ways[strand[0]][1], len(word) - 1 - place)


def taut_order(words, ways, band):
    order = []
    for strand in strands_in(words, band):
        seen = seen_strand(words, ways, strand)
        order.insert(number_among(order, seen), seen)
    return tuple([seen.strand for seen in order])


def taut(yard, words):
    ways = [(Way(yard, word), Way(yard, turned(word))) for word in words]
    return (tuple(words), tuple([taut_order(words, ways, band) for band in bands(yard)]))
