"""Drawings with no more meetings than must be."""

from mustmeet.drawings import strands_in
from mustmeet.forced import corner_ends
from mustmeet.letters import turned
from mustmeet.words import ring, root
from mustmeet.yards import bands, steps_round


def corner_steps(yard, word, place):
    ends = corner_ends(word, place)
    return steps_round(yard, ends[0], ends[1])


# A cord gone along one way. Of a cord and the same one turned about just one leads, whatever word tells it:
# by its way sides are told where cords run side by side for ever.
class Way:
    def __init__(self, yard, word, longest):
        self.size = len(word)
        self.root_size = len(root(word)[0])
        self.leads = ring(word) < ring(turned(word))
        # A figure for each corner, so often round that each other cord parts from it within these or never does.
        steps = "".join([str(corner_steps(yard, word, place)) for place in range(len(word))])
        rounds = 3 + longest // max(len(word), 1)
        self.onward = steps * rounds
        self.backward = steps[::-1] * rounds


# A strand as it is when one goes through its band by the small letter.
class Seen:
    def __init__(self, strand, way, place):
        self.strand = strand
        self.way = way
        self.place = place


def steps_ahead(seen, start, end):
    first = seen.place + 1
    return seen.way.onward[first + start:first + end]


def steps_back(seen, start, end):
    first = seen.way.size - 1 - seen.place
    return seen.way.backward[first + start:first + end]


def parting(steps, one, other, enough):
    # How many steps two strands share; cords may do so for long, so ever longer stretches of them are tried,
    # then ever shorter ones.
    many = 0
    size = 1
    while many < enough and steps(one, many, many + size) == steps(other, many, many + size):
        many += size
        size *= 2
    while size > 1:
        size //= 2
        if steps(one, many, many + size) == steps(other, many, many + size):
            many += size
    return many


def side_of(seen):
    # Cords that run side by side for ever lie one beside the other, and so do the rounds of each: then a cord
    # crosses its own rounds just where its last one comes back to the first, one time less than it has rounds.
    way = seen.way
    cord = seen.strand[0]
    if way.leads:
        return (cord, seen.place // way.root_size)
    return (-cord, -((way.size - 1 - seen.place) // way.root_size))


def comes_ahead(one, other):
    # The nearest parting, ahead or back, says who comes first: so two strands change sides once at most along
    # what they share, and all strands of a band stand in one order.
    enough = one.way.root_size + other.way.root_size
    ahead = parting(steps_ahead, one, other, enough)
    back = parting(steps_back, one, other, enough)
    if min(ahead, back) >= enough:
        return side_of(one) < side_of(other)
    if ahead <= back:
        return steps_ahead(one, ahead, ahead + 1) < steps_ahead(other, ahead, ahead + 1)
    return steps_back(one, back, back + 1) < steps_back(other, back, back + 1)


def number_among(order, seen):
    low = 0
    high = len(order)
    while low < high:
        middle = (low + high) // 2
        if comes_ahead(order[middle], seen):
            low = middle + 1
        else:
            high = middle
    return low


def seen_strand(words, ways, strand):
    word = words[strand[0]]
    place = strand[1]
    if word[place].islower():
        return Seen(strand, ways[strand[0]][0], place)
    return Seen(strand, ways[strand[0]][1], len(word) - 1 - place)


def taut_order(words, ways, band):
    order = []
    for strand in strands_in(words, band):
        seen = seen_strand(words, ways, strand)
        order.insert(number_among(order, seen), seen)
    return tuple([seen.strand for seen in order])


def taut(yard, words):
    longest = max([len(word) for word in words], default=0)
    ways = [(Way(yard, word, longest), Way(yard, turned(word), longest)) for word in words]
    return (tuple(words), tuple([taut_order(words, ways, band) for band in bands(yard)]))
