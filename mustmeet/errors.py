"""The refusals: the class says what is refused, the fields say where or which."""

# Each hands its fields on to its base unchanged, so that an error can be copied,
# and is not spelled out in words until somebody asks for them.


class MeetError(ValueError):
    pass


class NoYard(MeetError):
    def __init__(self, at):
        MeetError.__init__(self, at)
        self.at = at


class NoWord(MeetError):
    def __init__(self, at):
        MeetError.__init__(self, at)
        self.at = at


class NoDrawing(MeetError):
    def __init__(self, word, at):
        MeetError.__init__(self, word, at)
        self.word = word
        self.at = at


class NoText(MeetError):
    def __init__(self, row):
        MeetError.__init__(self, row)
        self.row = row


class NoDeed(MeetError):
    def __init__(self, at):
        MeetError.__init__(self, at)
        self.at = at


class NoPaper(MeetError):
    def __init__(self, word):
        MeetError.__init__(self, word)
        self.word = word


class NoCut(MeetError):
    pass


class NotApart(MeetError):
    pass


class NotLone(MeetError):
    pass


class Twice(MeetError):
    def __init__(self, name):
        MeetError.__init__(self, name)
        self.name = name


class NoName(MeetError):
    def __init__(self, name):
        MeetError.__init__(self, name)
        self.name = name


class TooLong(MeetError):
    def __init__(self, name):
        MeetError.__init__(self, name)
        self.name = name


class NoRow(MeetError):
    pass
