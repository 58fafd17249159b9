"""The refusals, a class each: but for WidthError none stands under another one."""


class WidthError(ValueError):
    """Any refusal."""


class NoSum(WidthError):
    """A text that is no sum."""


class NoClaim(WidthError):
    """A text that is no claim."""


class NoWords(WidthError):
    """There are no words of the kind asked for."""


class NoTurning(WidthError):
    """A step of a chain that does not fit."""


class NoShorter(WidthError):
    """There is no sum that is short enough."""


class NoAsk(WidthError):
    """A line that the desk does not take."""


class NoName(WidthError):
    """A name for which there is no word."""

    def __init__(self, word):
        self.word = word
