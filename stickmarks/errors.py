"""The refusals."""


class StickError(ValueError):
    """Any refusal."""


class BadText(StickError):
    """What is no text, or an empty one where it must have a letter."""


class NoPlace(StickError):
    """What is no place, or no stretch of one sign or more."""


class NoSeat(StickError):
    """What is no seat, or no sign."""


class NoHand(StickError):
    """What is no hand, or no number of hands that is let."""


class NoDeed(StickError):
    """What is no deed, or one that does not stand, or stands, where it must."""


class NoMark(StickError):
    """What is the number of no mark, or of no thread, that is there."""
