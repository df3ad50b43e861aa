"""The refusals of the program, each straight under RiseError."""

# No field stands in an error's words: a whole number may have more figures than Python writes out.


class RiseError(ValueError):
    pass


class BadShape(RiseError):
    pass


class BadDeed(RiseError):
    pass


class BadMost(RiseError):
    pass


class NoCode(RiseError):
    pass


class NoText(RiseError):
    pass


class NoLine(RiseError):
    pass


class NoRoom(RiseError):
    pass


class NoArea(RiseError):
    pass


class Down(RiseError):
    pass


class Up(RiseError):
    pass


class TooMany(RiseError):
    pass


class BadSettings(RiseError):
    def __init__(self, word):
        RiseError.__init__(self, "settings can't be made of this")
        self.word = word


class Wait(RiseError):
    def __init__(self, reading):
        RiseError.__init__(self, "the clock must show a later reading")
        self.reading = reading


class NoNote(RiseError):
    def __init__(self, moment):
        RiseError.__init__(self, "the moment is not written down ahead")
        self.moment = moment


class NoLetter(RiseError):
    def __init__(self, number):
        RiseError.__init__(self, "no letter has this number")
        self.number = number


class NoGrant(RiseError):
    def __init__(self, mark):
        RiseError.__init__(self, "no grant has this mark")
        self.mark = mark


class NoHand(RiseError):
    def __init__(self, name):
        RiseError.__init__(self, "no hand bears this name")
        self.name = name


class Overlap(RiseError):
    def __init__(self, one, other):
        RiseError.__init__(self, "more than one grant has this mark")
        self.one = one
        self.other = other
