"""The errors of the package: each is a MarkError, and none is a kind of another one."""


class MarkError(ValueError):
    """The base class of all errors of the package."""


class InvalidMark(MarkError):
    """Raised where a value is not a mark."""


class InvalidNumber(MarkError):
    """Raised where a value is not a number that can stand there."""


class TooMany(MarkError):
    """Raised where a call would have to look at more than the limits allow."""


class InvalidClass(MarkError):
    """Raised where a value is not a class, or not a list of so many classes."""


class InvalidTerm(MarkError):
    """Raised where a value is not a term."""


class InvalidRule(MarkError):
    """Raised where a value is not a rule."""


class InvalidChain(MarkError):
    """Raised where a value is not a chain."""


class InvalidBegin(MarkError):
    """Raised where a value is not a chooser of the chain."""


class InvalidDeal(MarkError):
    """Raised where a value is not a deal."""


class InvalidDeals(MarkError):
    """Raised where a value is not a list of so many deals."""


class InvalidPlace(MarkError):
    """Raised where a value is not a place."""


class InvalidFamilies(MarkError):
    """Raised where a value is not a list of families."""


class InvalidPattern(MarkError):
    """Raised where a value is not a pattern of so many deals."""


class InvalidSightings(MarkError):
    """Raised where a value is not a list of sightings."""


class InvalidPlan(MarkError):
    """Raised where a value is not a plan."""


class InvalidHistory(MarkError):
    """Raised where a value is not a history of the plan."""


class InvalidItem(MarkError):
    """Raised where a value is not an item that the plan can do without."""


class NotRight(MarkError):
    """Raised where a plan is not right."""


class InvalidEntries(MarkError):
    """Raised where a value is not a list of entries of a paper."""


class InvalidLine(MarkError):
    """A line of a text is wrong: its number, counted from 0, and the word for the reason."""

    def __init__(self, line, reason):
        # The message is the reason alone, because an integer of any size has to be taken as line
        # and Python writes out no integers of many thousand digits.
        super().__init__(reason)
        self.line = line
        self.reason = reason


class InvalidName(MarkError):
    """Raised where a value is not a name."""


class KnownThing(MarkError):
    """Raised where a thing is watched already."""


class UnknownThing(MarkError):
    """Raised where a thing is not watched."""


class NothingToUndo(MarkError):
    """Raised where no deed is left that could be taken back."""


class UnknownDeed(MarkError):
    """Raised where a deed has none of the forms of deeds."""


class CannotBe(MarkError):
    """Raised where no mark would be left for a thing."""


class SameThing(MarkError):
    """Raised where two things are named by one name."""
