"""The refusals: each stands straight under GiftError, none under another."""


class GiftError(ValueError):
    """Any refusal of this package."""


class NoRow(GiftError):
    """It is no row, or no row that is taken here."""


class NoDeed(GiftError):
    """The deed, run or plan may not be done."""


class TooGreat(GiftError):
    """The sum is above what is told here."""


class TooFew(GiftError):
    """Fewer than three holders have something."""


class NoBack(GiftError):
    """Nothing is left that could be taken back."""


class NoName(GiftError):
    """It is no name, or nothing is kept under it."""


class NoText(GiftError):
    """It is no text that is written as told."""


class NoLine(GiftError):
    """It is no line that the desk knows."""
