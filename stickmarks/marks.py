"""Marks, each of which sticks to a sign of a sheet wherever it goes."""

from stickmarks.numbered import Numbered


class Marks:
    """A row of marks of one sheet; where they stand is asked of the sheet anew each time."""

    def __init__(self, sheet):
        self._sheet = sheet
        # Pairs of a hand and a sign.
        self._marks = Numbered()

    def stick(self, hand, place):
        """Stick a mark of a hand to the sign that is shown at a place; return the number of the mark."""
        self._sheet.check_hand(hand)
        return self._marks.keep((hand, self._sheet.sign_at(place)))

    def drop(self, number):
        """Take a mark off."""
        self._marks.drop(number)

    def sign(self, number):
        """Return the sign to which a mark sticks."""
        _, sign = self._marks.thing(number)
        return sign

    def told(self, number):
        """Return the place of the seat on which the sign of a mark sits, and whether the sign is shown."""
        return self._sheet.place_of(self.sign(number))

    def numbers(self):
        """Return the rising list of the numbers of all marks."""
        return self._marks.numbers()

    def of(self, hand):
        """Return the rising list of the numbers of a hand's marks."""
        self._sheet.check_hand(hand)
        return [number for number in self.numbers() if self._marks.thing(number)[0] == hand]

    def order(self):
        """Return all numbers by the seats on which the signs sit, and those of one sign rising."""
        by_sign = {}
        for number in self.numbers():
            by_sign.setdefault(self.sign(number), []).append(number)
        return [number for sign in self._sheet.order() if sign in by_sign for number in by_sign[sign]]
