"""Which of the things that are handed in are whole numbers, and which are texts."""

LINE_FEED = 10
BLANK = 32
PERCENT = 37
TILDE = 126


def is_within(value, least, most):
    """Whether a value of any kind is a whole number from least to most."""
    # Not isinstance: True and False would pass it, and so would what only claims to be an int.
    return type(value) == int and least <= value <= most


def is_letter(sign):
    """Whether a string of one sign is a letter."""
    code = ord(sign)
    if code == LINE_FEED:
        return True
    return BLANK <= code <= TILDE and code != PERCENT


def is_text(value):
    """Whether a value of any kind is a text; the empty one is."""
    return type(value) == str and all([is_letter(sign) for sign in value])
