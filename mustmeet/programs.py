"""Programs of cords, looked at and worked out."""

from mustmeet.errors import NoName, TooLong, Twice
from mustmeet.letters import turned
from mustmeet.words import shortened

LONGEST = 60


def terms_in(term):
    # The terms that stand right within a term, from the left.
    if term[0] == "then":
        return [term[1], term[2]]
    if term[0] == "back":
        return [term[1]]
    if term[0] == "again":
        return [term[2]]
    if term[0] == "for":
        return [term[2], term[3]]
    return []


def names_in(term):
    if term[0] == "name":
        return [term[1]]
    names = []
    for part in terms_in(term):
        names.extend(names_in(part))
    return names


def look_program(program):
    known = {}
    for name, term in program:
        if name in known:
            raise Twice(name)
        for asked in names_in(term):
            if asked not in known:
                raise NoName(asked)
        known[name] = True
    return True


def put_for(letter, word, other):
    # Each letter is taken as it stands, so what is put in for one isn't looked at again.
    places = {letter: other, letter.upper(): turned(other)}
    return "".join([places.get(each, each) for each in word])


def made_of(term, words, known):
    # What a term comes to, by the words of the terms right within it; not yet shortened.
    if term[0] == "walk":
        return term[1]
    if term[0] == "name":
        return known[term[1]]
    if term[0] == "then":
        return words[0] + words[1]
    if term[0] == "back":
        return turned(words[0])
    if term[0] == "again":
        return words[0] * term[1]
    return put_for(term[1], words[0], words[1])


def word_of(name, term, known):
    # Every part is worked out, also one that is gone along no times: it too may be too long.
    words = [word_of(name, part, known) for part in terms_in(term)]
    word = shortened(made_of(term, words, known))
    if len(word) > LONGEST:
        raise TooLong(name)
    return word


def worked(program):
    known = {}
    for name, term in program:
        known[name] = word_of(name, term, known)
    return list(known.values())
