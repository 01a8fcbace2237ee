"""The errors of the package; each keeps its fields just as they were given."""


class JourneyError(ValueError):
    """What all errors of the package are."""


class BadText(JourneyError):
    """A text is wrong from this line and column on."""

    def __init__(self, line, column):
        self.line = line
        self.column = column


class BadName(JourneyError):
    """What should be a name is none."""

    def __init__(self, name):
        self.name = name


class BadNumber(JourneyError):
    """A number is not one of those that may stand there."""

    def __init__(self, what, number):
        self.what = what
        self.number = number


class BadPlace(JourneyError):
    """What should be a place is none."""

    def __init__(self, what):
        self.what = what


class BadSheet(JourneyError):
    """The steps or the prices make no sheet."""

    def __init__(self, what):
        self.what = what


class BadJourney(JourneyError):
    """The item with this index does not go on with the journey."""

    def __init__(self, index):
        self.index = index


class NoSpot(JourneyError):
    """The map has no spot of this name."""

    def __init__(self, name):
        self.name = name


class NoRoad(JourneyError):
    """The map has no road of this name."""

    def __init__(self, name):
        self.name = name


class NoMap(JourneyError):
    """The desk has no map of this name."""

    def __init__(self, name):
        self.name = name


class TakenName(JourneyError):
    """A name is taken already."""

    def __init__(self, name):
        self.name = name


class TooMany(JourneyError):
    """There are more of them than there may be."""

    def __init__(self, what, many, limit):
        self.what = what
        self.many = many
        self.limit = limit


class TooLarge(JourneyError):
    """A number is farther from 0 than it may be."""

    def __init__(self, what, number, limit):
        self.what = what
        self.number = number
        self.limit = limit


class NotAround(JourneyError):
    """The rounds of the map do not lead to all sides."""


class Unlike(JourneyError):
    """Two things that should fit each other do not."""

    def __init__(self, what):
        self.what = what


class BadPromise(JourneyError):
    """What should be a promise is none."""

    def __init__(self, promise):
        self.promise = promise


class NotKept(JourneyError):
    """The desk does not keep this promise."""

    def __init__(self, promise):
        self.promise = promise


class Broken(JourneyError):
    """A kept promise would not hold any more; place is its witness."""

    def __init__(self, promise, place):
        self.promise = promise
        self.place = place


class NothingToUndo(JourneyError):
    """No edit is left that could be taken back."""


class NothingToRedo(JourneyError):
    """No edit was taken back that could be done again."""
