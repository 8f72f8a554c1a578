"""The refusals: three families, and under each one a class for each kind of refusal.

The fields are the very things that were handed in. They are no copies, so they tell what
these things are, also when these change later.
"""


class PlanError(ValueError):
    """What isn't what is wanted."""


class NoNumber(PlanError):
    """What is no whole number, or none within what is told with it."""

    def __init__(self, found):
        self.found = found


class NoName(PlanError):
    """What is no name."""

    def __init__(self, found):
        self.found = found


class NoThing(PlanError):
    """What is no thing."""

    def __init__(self, found):
        self.found = found


class NoDeeds(PlanError):
    """What is no deeds."""

    def __init__(self, found):
        self.found = found


class NoTests(PlanError):
    """What is no tests."""

    def __init__(self, found):
        self.found = found


class NoPlan(PlanError):
    """What is no plan."""

    def __init__(self, found):
        self.found = found


class NoSource(PlanError):
    """What is no source."""

    def __init__(self, found):
        self.found = found


class NoShelf(PlanError):
    """What is no shelf."""

    def __init__(self, found):
        self.found = found


class NoTruth(PlanError):
    """What is neither True nor False."""

    def __init__(self, found):
        self.found = found


class NoList(PlanError):
    """What is no list, or no dict, as it is wanted."""

    def __init__(self, found):
        self.found = found


class NoRow(PlanError):
    """What is no row, nor another reader."""

    def __init__(self, found):
        self.found = found


class NoSpot(PlanError):
    """What is no spot of a plan."""

    def __init__(self, found):
        self.found = found


class NoWord(PlanError):
    """What is no text, or no word that is wanted."""

    def __init__(self, found):
        self.found = found


class NoLine(PlanError):
    """What is no line that a desk takes."""

    def __init__(self, found):
        self.found = found


class NoPaper(PlanError):
    """What is no paper."""

    def __init__(self, found):
        self.found = found


class NoOrder(PlanError):
    """What is no order of turns."""

    def __init__(self, found):
        self.found = found


class Doubled(PlanError):
    """A name that is there already."""

    def __init__(self, found):
        self.found = found


class NoText(PlanError):
    """A text that writes no plan, by the number of its first wrong row."""

    def __init__(self, at):
        self.at = at


class Missing(KeyError):
    """What isn't there."""


class NotThere(Missing):
    """What is none of those that are there."""

    def __init__(self, found):
        self.found = found


class NotOpen(Missing):
    """What is no number of an open reading."""

    def __init__(self, found):
        self.found = found


class Barred(LookupError):
    """What can't be now."""


class Over(Barred):
    """Nothing is left to tell."""


class Fault(Barred):
    """A thing of a source faults, by the source's name and the thing's place."""

    def __init__(self, name, at):
        self.name = name
        self.at = at


class Thrown(Barred):
    """A word that was thrown in."""

    def __init__(self, word):
        self.word = word


class TooMuch(Barred):
    """More than there may be."""

    def __init__(self, many):
        self.many = many


class Waits(Barred):
    """Nothing can be told yet."""

    def __init__(self, many):
        self.many = many


class NotShut(Barred):
    """Closings that faulted, by the names of their sources."""

    def __init__(self, found):
        self.found = found


class Begun(Barred):
    """What has begun already."""

    def __init__(self, found):
        self.found = found
