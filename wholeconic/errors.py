"""The errors of the program (point 0.6)."""


class ConicError(ValueError):
    """The base of all errors; `what` is the item that the broken rule names."""

    def __init__(self, what=None):
        self.what = what


class BadText(ConicError):
    """A text that is no equation; `what` is the place at which it fails."""


class BadForm(ConicError):
    """A number that does not fit the others; `what` is that number."""
