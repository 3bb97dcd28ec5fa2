"""The errors of the package."""


class StepError(ValueError):
    """The base class of all errors of the package."""


class BadWheels(StepError):
    """A value is no wheels; index is the place of its first wrong item, or None."""

    def __init__(self, index):
        self.index = index


class BadStep(StepError):
    """A value is no step of the wheels."""


class BadRow(StepError):
    """A value is no row of steps; index is the place of its first wrong item, or None."""

    def __init__(self, index):
        self.index = index


class BadNumber(StepError):
    """A value is no integer of those that are let."""


class NotHome(StepError):
    """The steps of a row together do not lead home."""


class BadText(StepError):
    """A value that should be a text is no string."""


class BadLine(StepError):
    """A word of a text cannot stand, or lacks; line and word are counted from 1."""

    def __init__(self, line, word):
        self.line = line
        self.word = word


class NoStep(StepError):
    """There is no step that could be taken back."""


class TooMany(StepError):
    """There is more than what is let at most; most tells how many are."""

    def __init__(self, most):
        self.most = most
