"""Things that are handed in although nothing of the kind is right, and what must follow."""

from stickmarks.errors import StickError


class Sulking:
    """Refuses whatever is asked of it."""

    def refuse(self, *_):
        raise RuntimeError("asked")

    __eq__ = __ne__ = __lt__ = __le__ = __gt__ = __ge__ = refuse
    __hash__ = __bool__ = __len__ = __iter__ = __index__ = __int__ = __str__ = __repr__ = refuse


class Lying:
    """Claims to be an int, or a str, and to be equal to everything."""

    def __init__(self, kind):
        self.kind = kind

    @property
    def __class__(self):
        return self.kind

    def agree(self, *_):
        return True

    __eq__ = __lt__ = __le__ = __gt__ = __ge__ = __bool__ = agree

    def __hash__(self):
        return 0

    def __index__(self):
        return 0

    def __iter__(self):
        return iter("a")

    def __len__(self):
        return 1


NO_KIND = [0.0, 1.0, float("nan"), 1j, b"", b"a", object(), Sulking(), Lying(int), Lying(str),
           [], [0], ["a"], (), (0,), ("a",), {}, {0: 0}, {"a": "a"}, set(), len, int]
NO_NUMBERS = [True, False, None, "", "0", "a"] + NO_KIND
NO_TEXTS = [0, 1, -1, True, False, None] + NO_KIND + [
    "\t", "a\tb", "\r", "a\r\n", "\x00", "\x0b", "\x0c", "\x1b", "\x1f", "ab\x08"]


def beyond(least, most):
    """Whatever is no whole number from least to most."""
    return [least - 1, least - 2, most + 1, most + 2, 10 ** 30, -10 ** 30, 2 ** 63, 2 ** 64] + NO_NUMBERS


def refused(case, error, ask, told=None):
    """Check that a call is refused by this very error and that it changes nothing that is told."""
    before = told() if told else None
    with case.assertRaises(error) as caught:
        ask()
    case.assertIs(type(caught.exception), error)
    case.assertIsInstance(caught.exception, StickError)
    case.assertIsInstance(caught.exception, ValueError)
    if told:
        case.assertEqual(before, told())
