"""The errors of the package, each with its values in attributes."""


class NoWheel(LookupError):
    """A string that ought to be a WHEEL and is none."""

    def __init__(self, name):
        self.name = name


class NoSaying(LookupError):
    """A string that ought to be a SAYING and is none."""

    def __init__(self, name):
        self.name = name


class NoReader(LookupError):
    """A string that ought to be a reader and is none."""

    def __init__(self, name):
        self.name = name


class NoNumber(LookupError):
    """A number for which there is nothing, or that does not do."""

    def __init__(self, number):
        self.number = number


class NoWord(LookupError):
    """A word that nothing is called."""

    def __init__(self, word):
        self.word = word


class NothingDone(LookupError):
    """There is no deed that could be undone."""


class Twice(ValueError):
    """A name that would be there twice."""

    def __init__(self, name):
        self.name = name


class NoSetting(ValueError):
    """The MILL has no SETTING."""


class NoPaper(ValueError):
    """There is no PAPER: the PROMISE stands."""


class Unfit(ValueError):
    """The arguments do not go together."""


class BadText(ValueError):
    """A text that is not written as it ought to be."""


class BadLine(ValueError):
    """The number of the first line that is not written as it ought to be."""

    def __init__(self, number):
        self.number = number
