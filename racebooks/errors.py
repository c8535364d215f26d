"""The errors that the package raises."""


class BookError(Exception):
    """The base of all errors of the package."""


class BadValue(BookError):
    """An argument is not as told; at is its place, from 1 on."""

    def __init__(self, at):
        self.at = at


class BadOffer(BookError):
    """An offer or a quote is not as told; at is its number, from 0 on."""

    def __init__(self, at):
        self.at = at


class BadSyntax(BookError):
    """A text, a command or a line of a log has no known form; at is the line's number."""

    def __init__(self, at):
        self.at = at


class TooMany(BookError):
    """An answer is larger than what is told; word names what is too many."""

    def __init__(self, word):
        self.word = word
