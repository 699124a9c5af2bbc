"""The errors with which functions refuse their arguments (point [2])."""


class HermitError(ValueError):
    """What every refusal of a function is."""


class NotValid(HermitError):
    """An argument is outside of its bounds."""


class TooMany(HermitError):
    """A told number is passed."""
