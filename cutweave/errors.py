"""The errors of the package."""


class CutError(Exception):
    """What all errors of the package are derived from."""


class BadValue(CutError):
    """An argument is not as it must be: at is its number in the call, from 0 on."""

    def __init__(self, at):
        self.at = at


class BadNet(CutError):
    """A text is not that of a net: at is the number of the line."""

    def __init__(self, at):
        self.at = at


class BadStep(CutError):
    """A deed is none, or can not be done: at is its number."""

    def __init__(self, at):
        self.at = at


class BadCut(CutError):
    """A cut is none, or is not consistent."""

    def __init__(self, at):
        self.at = at


class BadClaim(CutError):
    """A text is not that of a claim."""

    def __init__(self, at):
        self.at = at


class BadPaper(CutError):
    """A paper is not of the form, or is not right: at is the number of the line."""

    def __init__(self, at):
        self.at = at


class BadLine(CutError):
    """A line is none that the desk knows: at is its number."""

    def __init__(self, at):
        self.at = at


class TooMany(CutError):
    """There are more than are counted: word tells of what."""

    def __init__(self, word):
        self.word = word


class NothingThere(CutError):
    """What is asked for is not there: name tells what it is."""

    def __init__(self, name):
        self.name = name
