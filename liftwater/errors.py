"""The refusals, each of a class of its own, with the one field `what`."""


class BadText(ValueError):
    """A text that is the text of nothing."""

    def __init__(self, what):
        self.what = what


class BadRow(ValueError):
    """A row, by its number, that can't stand where it does."""

    def __init__(self, what):
        self.what = what


class NoTour(ValueError):
    """Trips, by how many there are, that are no tour."""

    def __init__(self, what):
        self.what = what


class NoBoat(LookupError):
    """A boat that isn't there."""

    def __init__(self, what):
        self.what = what


class Lack(LookupError):
    """A quay whose heap has too few goods."""

    def __init__(self, what):
        self.what = what


class Shut(RuntimeError):
    """A lock whose chamber doesn't stand as it must."""

    def __init__(self, what):
        self.what = what


class Astray(RuntimeError):
    """A boat that isn't in the pound told."""

    def __init__(self, what):
        self.what = what


class Dry(ArithmeticError):
    """A pound that would be left below its least."""

    def __init__(self, what):
        self.what = what


class Light(ArithmeticError):
    """A boat that has too few goods aboard."""

    def __init__(self, what):
        self.what = what
