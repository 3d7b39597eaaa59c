"""The refusals, each a class of its own straight under SackError."""


class SackError(ValueError):
    pass


class NoStore(SackError):
    pass


class NoNumber(SackError):
    pass


class NoLoad(SackError):
    pass


class TooMany(SackError):
    pass


class NotSingle(SackError):
    pass


class NotEndless(SackError):
    pass


class NoKind(SackError):
    pass


class NoLine(SackError):
    pass


class NoText(SackError):
    def __init__(self, at):
        SackError.__init__(self, "a word is not written as a kind of a store")
        self.at = at
