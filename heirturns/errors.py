"""The errors of the package, each with the values that it tells."""


class HeirError(ValueError):
    """Above all errors of the package."""


class BadLine(HeirError):
    """A line of a text, counted from 0, is no request."""

    def __init__(self, number):
        self.number = number


class BadRun(HeirError):
    """A pair, at this place from 0, is no heir with a number from 1."""

    def __init__(self, place):
        self.place = place


class BadText(HeirError):
    """A piece of a text, counted from 0, is not so written."""

    def __init__(self, piece):
        self.piece = piece


class Known(HeirError):
    """The name is there already."""

    def __init__(self, name):
        self.name = name


class NoHeir(HeirError):
    """The heir has no list."""

    def __init__(self, name):
        self.name = name


class NoList(HeirError):
    """No list fits all that was told."""


class NoNumber(HeirError):
    """There is none with this number."""

    def __init__(self, number):
        self.number = number


class NoPlace(HeirError):
    """There is no such place."""

    def __init__(self, number):
        self.number = number


class NoThing(HeirError):
    """The thing is not there."""

    def __init__(self, name):
        self.name = name


class NoTurns(HeirError):
    """There are no turns with this name."""

    def __init__(self, name):
        self.name = name


class NothingDone(HeirError):
    """There is nothing to take back."""


class OtherThings(HeirError):
    """The turns or things do not go together."""
