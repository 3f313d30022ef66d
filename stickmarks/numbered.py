"""Things that are kept under numbers until they are dropped."""

from stickmarks.checks import is_within
from stickmarks.errors import NoMark


class Numbered:
    """Things under numbers from nought, none of which is given twice."""

    def __init__(self):
        # Numbers are given rising, so the keys stand rising too.
        self._things = {}
        # Counted by itself: what is dropped must not free its number.
        self._given = 0

    def keep(self, thing):
        """Keep a thing; return its number."""
        number = self._given
        self._things[number] = thing
        self._given += 1
        return number

    def drop(self, number):
        """Let the thing of a number be there no more."""
        self._check_number(number)
        del self._things[number]

    def thing(self, number):
        """Return the thing of a number."""
        self._check_number(number)
        return self._things[number]

    def numbers(self):
        """Return the rising list of the numbers of all that are there."""
        return list(self._things)

    def _check_number(self, number):
        # The range first: not all that may be handed in can be looked up in a dict.
        if not is_within(number, 0, self._given - 1) or number not in self._things:
            raise NoMark("this is the number of none that is there")
