"""A desk that keeps a yard and words by names, and answers rows of text."""

from mustmeet.apart import full_set, lie_apart
from mustmeet.drawingtexts import NO_LETTERS, show_drawing
from mustmeet.errors import NoName, NoRow
from mustmeet.least import least
from mustmeet.letters import is_name
from mustmeet.lone import is_lone
from mustmeet.rims import rims
from mustmeet.taut import taut
from mustmeet.winding import wound
from mustmeet.words import ring, shortest
from mustmeet.yards import look_word, look_yard

MOST_NAMES = 4
MOST_SIGNS = 12
MOST_TOGETHER = 24
MOST_WOUND = 6
MOST_ALONG = 4
TIMES = {"-3": -3, "-2": -2, "-1": -1, "0": 0, "1": 1, "2": 2, "3": 3}
OK = "ok"


def are_names(texts):
    return all([is_name(text) for text in texts])


def is_row(parts):
    kind = parts[0]
    count = len(parts) - 1
    if "" in parts:
        return False
    if kind in ("rims", "full"):
        return count == 0
    if kind == "yard":
        return count == 1
    if kind == "cord":
        return count == 2 and is_name(parts[1]) and len(parts[2]) <= MOST_SIGNS
    if kind in ("ring", "lone"):
        return count == 1 and is_name(parts[1])
    if kind in ("least", "apart", "draw"):
        return 1 <= count <= MOST_NAMES and are_names(parts[1:])
    return kind == "wind" and count == 4 and are_names(parts[1:4]) and parts[4] in TIMES


def parts_of(row):
    if not isinstance(row, str):
        raise NoRow()
    parts = row.split(" ")
    if not is_row(parts):
        raise NoRow()
    return parts


def names_asked(parts):
    # Behind NEW come the two names by which a word must be kept already.
    return parts[2:4] if parts[0] == "wind" else parts[1:]


def are_in_bounds(kind, shorts):
    if kind == "wind":
        return len(shorts[0]) <= MOST_WOUND and 1 <= len(shorts[1]) <= MOST_ALONG
    if kind in ("least", "draw") and "" in shorts:
        return False
    return kind in ("ring", "lone") or sum([len(short) for short in shorts]) <= MOST_TOGETHER


def yes_or_no(truth):
    return "yes" if truth else "no"


def answer(yard, kind, shorts):
    if kind == "rims":
        return " ".join(rims(yard))
    if kind == "full":
        return " ".join(full_set(yard))
    if kind == "ring":
        return ring(shorts[0]) if shorts[0] != "" else NO_LETTERS
    if kind == "least":
        return str(least(yard, shorts))
    if kind == "lone":
        return yes_or_no(is_lone(yard, shorts[0]))
    if kind == "apart":
        return yes_or_no(lie_apart(yard, shorts))
    return show_drawing(yard, taut(yard, shorts)).replace("\n", " ; ")


class Desk:
    def __init__(self):
        self.yard = None
        self.kept = {}

    def say(self, row):
        parts = parts_of(row)
        if parts[0] == "yard":
            return self.take_yard(parts[1])
        if self.yard is None:
            raise NoRow()
        if parts[0] == "cord":
            return self.take_cord(parts[1], parts[2])
        shorts = self.shorts_by(names_asked(parts))
        if not are_in_bounds(parts[0], shorts):
            raise NoRow()
        if parts[0] == "wind":
            self.kept[parts[1]] = wound(self.yard, shorts[1], TIMES[parts[4]], shorts[0])
            return OK
        return answer(self.yard, parts[0], shorts)

    def take_yard(self, text):
        look_yard(text)
        self.yard = text
        self.kept = {}
        return OK

    def take_cord(self, name, text):
        word = text if text != NO_LETTERS else ""
        look_word(self.yard, word)
        self.kept[name] = word
        return OK

    def shorts_by(self, names):
        for name in names:
            if name not in self.kept:
                raise NoName(name)
        return tuple([shortest(self.kept[name]) for name in names])
