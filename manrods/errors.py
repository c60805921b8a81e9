"""The errors that the functions of the package raise [2]."""


class NoPlace(LookupError):
    """There is no such level, stride, man or rest."""

    def __init__(self, place):
        self.place = place


class NothingDone(LookupError):
    """There is nothing to take back, or to do again."""


class BadLine(ValueError):
    """This line of a text is not as it must be."""

    def __init__(self, line):
        self.line = line


class CanNot(ValueError):
    """What is asked for cannot be reached."""


class TooMuch(ValueError):
    """The question is too great to be answered."""


class Unfit(ValueError):
    """The arguments do not fit one another."""
