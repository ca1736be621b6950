"""The errors of the package, each of its own class.

They keep what they are made with, and no words: the class and its fields tell all.
"""


class ShelfError(ValueError):
    """What all errors of the package have in common."""


class BadFeed(ShelfError):
    """What should make a feed makes none: part is "batches" or "kept", at the hour, or -1."""

    def __init__(self, part, at):
        self.part = part
        self.at = at


class NoHour(ShelfError):
    """What should be an hour is none, or none that may stand here."""

    def __init__(self):
        pass


class NoKey(ShelfError):
    """What should be a key is none."""

    def __init__(self):
        pass


class NoShelf(ShelfError):
    """What should be a shelf of the feed is none."""

    def __init__(self):
        pass


class NoTable(ShelfError):
    """What should be a table is none."""

    def __init__(self):
        pass


class TooMany(ShelfError):
    """There is more of something than the most that is allowed."""

    def __init__(self, most):
        self.most = most


class NoNumber(ShelfError):
    """What should be a number is none, or is too small or too great."""

    def __init__(self):
        pass


class NoPlan(ShelfError):
    """What should be a plan is none, or none that may stand here."""

    def __init__(self):
        pass


class NoTree(ShelfError):
    """What should be the tree of a plan is none."""

    def __init__(self):
        pass


class NoWide(ShelfError):
    """What should be a wide plan is none, or none that may stand here."""

    def __init__(self):
        pass


class BadTask(ShelfError):
    """What should make a task makes none: part is "writes" or "looks", at the hour, or -1."""

    def __init__(self, part, at):
        self.part = part
        self.at = at


class NoLooked(ShelfError):
    """What should tell what is looked for does not."""

    def __init__(self):
        pass


class NoSizes(ShelfError):
    """What should be sizes are none."""

    def __init__(self):
        pass


class NoFloor(ShelfError):
    """What should be a floor is none."""

    def __init__(self):
        pass


class NoRules(ShelfError):
    """What should be rules are none."""

    def __init__(self):
        pass


class NoPrice(ShelfError):
    """What should be a fraction from 0 on is none."""

    def __init__(self):
        pass


class NoBurden(ShelfError):
    """What should be a burden is none."""

    def __init__(self):
        pass


class NoAnswer(ShelfError):
    """A keeper gives no right answer at this hour."""

    def __init__(self, hour):
        self.hour = hour


class NoBatch(ShelfError):
    """What should be a batch is none."""

    def __init__(self):
        pass


class NothingDone(ShelfError):
    """There is nothing that could be taken back."""

    def __init__(self):
        pass


class BadText(ShelfError):
    """A text has not the form that it should have, from this line on."""

    def __init__(self, line):
        self.line = line


class NoLine(ShelfError):
    """What should be a line of the desk is none."""

    def __init__(self):
        pass


class NoName(ShelfError):
    """Nothing is kept under this name."""

    def __init__(self, name):
        self.name = name
