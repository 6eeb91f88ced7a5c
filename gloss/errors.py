"""The refusals of the program, one class for each."""


class GlossError(ValueError):
    pass


class NoWord(GlossError):
    pass


class NoForm(GlossError):
    pass


class NoRow(GlossError):
    def __init__(self, row):
        self.row = row


class NoEnd(GlossError):
    pass


class TooDeep(GlossError):
    pass


class NoThing(GlossError):
    pass


class NoPlace(GlossError):
    pass


class InRing(GlossError):
    def __init__(self, ring):
        self.ring = ring


class Caught(GlossError):
    def __init__(self, thing, at):
        self.thing = thing
        self.at = at


class NoMark(GlossError):
    pass


class Both(GlossError):
    def __init__(self, thing, at, tellings):
        self.thing = thing
        self.at = at
        self.tellings = tellings


class Itself(GlossError):
    pass


class Unlike(GlossError):
    pass


class TooLong(GlossError):
    pass


class NothingDone(GlossError):
    pass


class NoDeed(GlossError):
    pass
