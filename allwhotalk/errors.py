"""The errors of the program."""


class TalkError(ValueError):
    """Every error of the program; the reason tells which one."""

    def __init__(self, reason):
        ValueError.__init__(self, reason)
        self.reason = reason


class TextError(TalkError):
    """A text that cannot be read, and the line, counted from 0, that tells it."""

    def __init__(self, line, reason):
        TalkError.__init__(self, reason)
        self.line = line
