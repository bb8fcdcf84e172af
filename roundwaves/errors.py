"""The errors that the functions of the package raise."""


class RoundError(ValueError):
    """What all errors of the package have in common."""


class InvalidChain(RoundError):
    """An argument is not a chain."""


class InvalidNumber(RoundError):
    """An argument is not a fraction within the limits of numbers."""


class InvalidStep(RoundError):
    """An argument is not a step, or not the number of one."""


class InvalidText(RoundError):
    """An argument is not the text of a chain."""


class TooMany(RoundError):
    """There are more steps or places than are allowed."""


class NothingToUndo(RoundError):
    """There is no change that can be undone, or performed again."""
