"""Papers: a drawing with all forced meetings of some cords, and how whoever's paper is looked at."""

from mustmeet.drawings import look_drawing
from mustmeet.errors import NoDrawing, NoPaper
from mustmeet.forced import forced
from mustmeet.meetings import meetings
from mustmeet.taut import taut
from mustmeet.words import root


def paper_of(yard, words):
    return (taut(yard, words), tuple(forced(yard, words)))


def look_paper_drawing(yard, words, drawing):
    try:
        look_drawing(yard, drawing)
    except NoDrawing:
        raise NoPaper("drawing") from None
    if drawing[0] != tuple(words):
        raise NoPaper("words")


def look_things(yard, words, things):
    for number in range(1, len(things)):
        if not things[number - 1] < things[number]:
            raise NoPaper("order")
    known = {}
    for thing in forced(yard, words):
        known[thing] = True
    for thing in things:
        if thing not in known:
            raise NoPaper("forced")


def more_rounds(words):
    return sum([max(root(word)[1] - 1, 0) for word in words])


def paper_holds(yard, words, paper):
    drawing = paper[0]
    things = paper[1]
    look_paper_drawing(yard, words, drawing)
    look_things(yard, words, things)
    if len(meetings(yard, drawing)) != len(things) + more_rounds(words):
        raise NoPaper("many")
    return True
