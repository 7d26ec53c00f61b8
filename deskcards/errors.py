"""All errors of the package; each keeps what it was created with."""


class CardError(ValueError):
    """The base class of all errors but NoRow."""


class InvalidRow(CardError):
    """An argument of a row is wrong; `word` is its parameter name."""

    def __init__(self, word):
        self.word = word


class InvalidTool(CardError):
    """An argument of a tool is wrong; `word` is its parameter name."""

    def __init__(self, word):
        self.word = word


class InvalidTerms(CardError):
    """An argument of terms is wrong; `word` is its parameter name."""

    def __init__(self, word):
        self.word = word


class InvalidText(CardError):
    """A text is not of its form; `at` is the number of the first wrong part."""

    def __init__(self, at):
        self.at = at


class InvalidEvent(CardError):
    """An event is none, or is not possible; `at` is its number."""

    def __init__(self, at):
        self.at = at


class InvalidFault(CardError):
    """A value is no fault."""


class InvalidSeen(CardError):
    """Something seen is none, or is not possible; `at` is its number."""

    def __init__(self, at):
        self.at = at


class InvalidCommand(CardError):
    """A value is no command, or there is no live door for it."""


class Refused(CardError):
    """One of several events is wrong; `at` is its index."""

    def __init__(self, at):
        self.at = at


class NoRow(IndexError):
    """An integer is no row's number; `at` is this integer."""

    def __init__(self, at):
        self.at = at
