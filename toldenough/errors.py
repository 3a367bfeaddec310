"""The errors of the package, each directly under ToldError."""


class ToldError(ValueError):
    """The base class of all errors of the package."""


class BadPlaces(ToldError):
    """The number of places is no integer from 1 to 3."""

    def __init__(self, places):
        self.places = places


class BadExample(ToldError):
    """The thing with this index is no example."""

    def __init__(self, index):
        self.index = index


class BadIndex(ToldError):
    """This thing is no index, or occurred before."""

    def __init__(self, index):
        self.index = index


class UnlikePlaces(ToldError):
    """Things with unlike places do not go together."""


class BadMost(ToldError):
    """The number of changes is no integer from 0 to 6."""

    def __init__(self, most):
        self.most = most


class BadPoint(ToldError):
    """This thing is no point of the places, or occurred before."""

    def __init__(self, point):
        self.point = point


class BadLies(ToldError):
    """The number of lies is no integer from 0 on."""

    def __init__(self, lies):
        self.lies = lies


class Unfit(ToldError):
    """No rule of the kind fits the sample."""


class BadStep(ToldError):
    """This thing is no step of the places."""

    def __init__(self, step):
        self.step = step


class NoLabeling(ToldError):
    """No rule of the kind gives these labels."""

    def __init__(self, labels):
        self.labels = labels


class BadPrices(ToldError):
    """This thing is no list of prices of the points."""

    def __init__(self, prices):
        self.prices = prices


class BadLabel(ToldError):
    """This thing is no label."""

    def __init__(self, label):
        self.label = label


class BadName(ToldError):
    """This thing is no word."""

    def __init__(self, name):
        self.name = name


class Held(ToldError):
    """An example has this name."""

    def __init__(self, name):
        self.name = name


class NotHeld(ToldError):
    """No example has this name."""

    def __init__(self, name):
        self.name = name


class Watched(ToldError):
    """A point is watched under this name."""

    def __init__(self, name):
        self.name = name


class NotWatched(ToldError):
    """No point is watched under this name."""

    def __init__(self, name):
        self.name = name


class NoDeed(ToldError):
    """There is no deed to take back or to do again."""


class BadDeed(ToldError):
    """The thing with this index is no deed."""

    def __init__(self, index):
        self.index = index


class BadText(ToldError):
    """The word with this index cannot stand there."""

    def __init__(self, index):
        self.index = index


class BadLine(ToldError):
    """The line with this number is not written as it must be."""

    def __init__(self, line):
        self.line = line
