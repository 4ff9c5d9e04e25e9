"""Words made shorter, and the rings, loops and roots of the cords that they tell."""

from mustmeet.letters import contrary, turned


def shortened(word):
    kept = []
    for letter in word:
        if kept and kept[-1] == contrary(letter):
            kept.pop()
        else:
            kept.append(letter)
    return "".join(kept)


def shortest(word):
    left = shortened(word)
    start = 0
    end = len(left)
    while end - start >= 2 and left[start] == contrary(left[end - 1]):
        start += 1
        end -= 1
    return left[start:end]


def ring(word):
    whole = shortest(word)
    least = whole
    for start in range(1, len(whole)):
        begun = whole[start:] + whole[:start]
        if begun < least:
            least = begun
    return least


def loop(word):
    return min(ring(word), ring(turned(word)))


def are_one(one, other):
    return ring(one) == ring(other)


def root(word):
    whole = ring(word)
    for size in range(1, len(whole) + 1):
        times = len(whole) // size
        if whole[:size] * times == whole:
            return (whole[:size], times)
    return ("", 0)


def by_size(words):
    return sorted(words, key=lambda word: (len(word), word))
