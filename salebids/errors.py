"""The errors of this package.

Each class stands directly below its base class, so that it belongs to no other one.
"""


class BadValue(ValueError):
    """A value that is passed is not right."""


class BadName(LookupError):
    """A name that is passed stands for nothing, or is in use."""


class NoAnswer(ArithmeticError):
    """What is asked for cannot be done now."""


class InvalidText(BadValue):
    """A value that is not the text of a rule."""

    def __init__(self, given):
        self.given = given


class InvalidName(BadValue):
    """A value that is not a name."""

    def __init__(self, given):
        self.given = given


class InvalidNumber(BadValue):
    """A value that is not an integer in its range."""

    def __init__(self, given):
        self.given = given


class InvalidQuestion(BadValue):
    """A value that is not a question about the rule."""

    def __init__(self, given):
        self.given = given


class InvalidCase(BadValue):
    """A value that is not a case of the question."""

    def __init__(self, given):
        self.given = given


class InvalidChange(BadValue):
    """A value that is not a change of the rule."""

    def __init__(self, given):
        self.given = given


class InvalidWish(BadValue):
    """A value that is not a wish."""

    def __init__(self, given):
        self.given = given


class InvalidIndex(BadValue):
    """A value that is not the index of a wish."""

    def __init__(self, given):
        self.given = given


class NotARule(BadValue):
    """A value that is not a rule."""

    def __init__(self, given):
        self.given = given


class OtherSeats(BadValue):
    """A rule that has other seats than the one beside it."""

    def __init__(self, given):
        self.given = given


class InvalidSeats(BadValue):
    """A value that is not the seats of a rule."""

    def __init__(self, index):
        self.index = index


class InvalidLines(BadValue):
    """A value that is not the lines of a rule."""

    def __init__(self, index):
        self.index = index


class InvalidRows(BadValue):
    """A value that is not the rows of a rule."""

    def __init__(self, index):
        self.index = index


class InvalidBids(BadValue):
    """A value that is not bids of the rule."""

    def __init__(self, index):
        self.index = index


class InvalidChanges(BadValue):
    """A value that is not a tuple of different changes of the rule."""

    def __init__(self, index):
        self.index = index


class UnknownName(BadName):
    """A value under which nothing stands."""

    def __init__(self, given):
        self.given = given


class InUse(BadName):
    """A wish needs what stands under this name."""

    def __init__(self, index):
        self.index = index


class NothingToUndo(NoAnswer):
    """No change is left that could be taken back."""


class Broken(NoAnswer):
    """A wish would not hold."""

    def __init__(self, index):
        self.index = index
