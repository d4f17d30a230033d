"""The errors of the package."""


class LogError(ValueError):
    """The base class of the errors below, but for NoPlace and NoEdition."""


class InvalidRow(LogError):
    """An argument of a row is wrong: the one with the name `word`."""

    def __init__(self, word):
        self.word = word


class InvalidEdition(LogError):
    """An edition can't be made: `word` tells what is wrong."""

    def __init__(self, word):
        self.word = word


class InvalidChain(LogError):
    """A chain can't be made: `word` tells what is wrong."""

    def __init__(self, word):
        self.word = word


class InvalidText(LogError):
    """A text can't be read: its part with the number `at` is wrong."""

    def __init__(self, at):
        self.at = at


class InvalidLog(LogError):
    """A value is no log: its thing with the index `at` is no entry."""

    def __init__(self, at):
        self.at = at


class InvalidEvent(LogError):
    """The event with the number `at` is none, or can't happen."""

    def __init__(self, at):
        self.at = at


class InvalidFault(LogError):
    """A value is not one of the four faults."""


class InvalidCommand(LogError):
    """A desk can't do a command."""


class Refused(LogError):
    """Of several events none was done, because of the one with the index `at`."""

    def __init__(self, at):
        self.at = at


class NoPlace(KeyError):
    """There is no such place, or no such answer: `name` is the value that was asked for."""

    def __init__(self, name):
        self.name = name


class NoEdition(IndexError):
    """A chain has no edition with the number `at`."""

    def __init__(self, at):
        self.at = at
