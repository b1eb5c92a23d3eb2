"""The errors that the program raises."""


class PatternError(ValueError):
    """The base class of all errors of the program."""


class InvalidPattern(PatternError):
    """The value is not a pattern."""


class InvalidWord(PatternError):
    """The value is not a word."""


class InvalidAssignment(PatternError):
    """The value is not an assignment for the pattern."""


class InvalidNumber(PatternError):
    """The value is not an integer of the range that is asked for."""


class InvalidLetters(PatternError):
    """The value is not a nonempty set of letters of the pattern."""


class InvalidChain(PatternError):
    """The value is not a chain of the pattern."""


class NotSure(PatternError):
    """The pattern is not sure."""


class NotFree(PatternError):
    """The set of letters is not free in the pattern."""


class EmptyResult(PatternError):
    """Nothing remains of the pattern."""


class TooShort(PatternError):
    """The word has too few letters."""


class TooLong(PatternError):
    """The word has too many letters."""


class TooMany(PatternError):
    """There are too many results."""


class TooLarge(PatternError):
    """The number has too many digits."""


class NotACertificate(PatternError):
    """The value is not a certificate."""


class InvalidName(PatternError):
    """The value cannot be a name."""

    def __init__(self, name):
        PatternError.__init__(self, f"not a name: {name!r}")
        self.name = name


class NameTaken(PatternError):
    """The name is in use."""

    def __init__(self, name):
        PatternError.__init__(self, f"the name is taken: {name!r}")
        self.name = name


class UnknownName(PatternError):
    """The value is not a name in use."""

    def __init__(self, name):
        PatternError.__init__(self, f"no such name: {name!r}")
        self.name = name


class Full(PatternError):
    """There is no room for one more."""

    def __init__(self, limit):
        PatternError.__init__(self, f"no more than {limit!r}")
        self.limit = limit


class InvalidMark(PatternError):
    """The value is not the number of a mark."""

    def __init__(self, number):
        PatternError.__init__(self, f"no such mark: {number!r}")
        self.number = number
