"""A sheet: a text that several hands change by deeds, each of which may be taken back."""

from stickmarks.checks import is_text, is_within
from stickmarks.errors import BadText, NoDeed, NoHand, NoPlace, NoSeat
from stickmarks.seats import Row
from stickmarks.signs import Sign

MOST_HANDS = 9


class Sheet:
    """The signs that came, the seats on which they sit, and the deeds that were done."""

    def __init__(self, text, hands):
        if not is_text(text):
            raise BadText("this is no text")
        if not is_within(hands, 1, MOST_HANDS):
            raise NoHand("a sheet has 1 to 9 hands")
        self._hands = hands
        self._row = Row()
        self._signs = []
        # By the number of the seat: the number of the one sign that may sit on it.
        self._owners = []
        # By the number of the deed: its hand, its word and the list of its signs.
        self._deeds = []
        # Its keys are the deeds that do not stand, in the order in which they were taken back.
        self._gone = {}
        self._settle(self._bring(None, None, text))

    def text(self):
        """Return the shown text."""
        return "".join([self._signs[sign].glyph for sign in self.shown()])

    def size(self):
        """Return how many signs are shown."""
        return self._row.all_taken()

    def shown(self):
        """Return the list of the shown signs' numbers, in order."""
        return [self._owners[seat] for seat in self._row.order() if self._row.is_taken(seat)]

    def many(self):
        """Return how many signs there are, shown or gone."""
        return len(self._signs)

    def letter(self, sign):
        """Return the letter of a sign."""
        self._check_sign(sign)
        return self._signs[sign].glyph

    def sign_at(self, place):
        """Return the number of the sign that is shown at a place."""
        return self._owners[self._row.find(place)]

    def place_of(self, sign):
        """Return the place of the seat on which a sign sits, and whether the sign is shown."""
        seat = self._seat_of(sign)
        return self._row.ahead(seat), self._row.is_taken(seat)

    def is_ahead(self, one, other):
        """Whether the seat on which a sign sits stands ahead of another one's."""
        return self._row.is_ahead(self._seat_of(one), self._seat_of(other))

    def stretch(self, begin, end):
        """Return the list of the shown signs from begin up to the one ahead of end, one at least."""
        if not is_within(end, 1, self.size()) or not is_within(begin, 0, end - 1):
            raise NoPlace("this is no stretch of one shown sign or more")
        return self.shown()[begin:end]

    def order(self):
        """Return the list of all signs, shown or gone, in the order of the seats on which they sit."""
        sitting = {self._seat_of(sign): sign for sign in range(self.many())}
        return [sitting[seat] for seat in self._row.order() if seat in sitting]

    def check_hand(self, hand):
        """Refuse what is no hand of the sheet."""
        if not is_within(hand, 0, self._hands - 1):
            raise NoHand("this is no hand of the sheet")

    def put(self, hand, place, text):
        """Put a text at a place; return the number of the deed."""
        self.check_hand(hand)
        self._check_place(place)
        if not is_text(text) or text == "":
            raise BadText("this is no text of one letter or more")
        signs = self._bring(self.deeds(), self._seat_ahead(place), text)
        return self._note(hand, "put", signs)

    def cut(self, hand, begin, end):
        """Take away the shown signs of a stretch; return the number of the deed."""
        self.check_hand(hand)
        signs = self.stretch(begin, end)
        for sign in signs:
            self._signs[sign].cutters.append(self.deeds())
        return self._note(hand, "cut", signs)

    def move(self, hand, begin, end, place):
        """Move the shown signs of a stretch to a place; return the number of the deed."""
        self.check_hand(hand)
        signs = self.stretch(begin, end)
        self._check_place(place)
        if begin < place < end:
            raise NoPlace("a stretch is not moved into itself")
        behind = self._seat_ahead(place)
        for sign in signs:
            behind = self._new_seat(sign, behind)
            self._signs[sign].moves.append((self.deeds(), behind))
        return self._note(hand, "move", signs)

    def deeds(self):
        """Return how many deeds were done."""
        return len(self._deeds)

    def deed(self, number):
        """Return the hand of a deed, its word and the list of its signs."""
        self._check_deed(number)
        hand, word, signs = self._deeds[number]
        return hand, word, list(signs)

    def stands(self, number):
        """Whether a deed stands."""
        self._check_deed(number)
        return number not in self._gone

    def take_back(self, number):
        """Let a deed that stands stand no more."""
        if not self.stands(number):
            raise NoDeed("this deed was taken back before")
        self._gone[number] = True
        self._settle(self._deeds[number][2])

    def do_again(self, number):
        """Let a deed that was taken back stand again."""
        if self.stands(number):
            raise NoDeed("this deed stands")
        del self._gone[number]
        self._settle(self._deeds[number][2])

    def last_standing(self, hand):
        """Return the greatest number of a hand's deeds that stand, or None."""
        self.check_hand(hand)
        for number in reversed(range(self.deeds())):
            if self._deeds[number][0] == hand and self.stands(number):
                return number
        return None

    def last_gone(self, hand):
        """Return the number of a hand's deed that was taken back last and does not stand, or None."""
        self.check_hand(hand)
        for number in reversed(list(self._gone)):
            if self._deeds[number][0] == hand:
                return number
        return None

    def _check_place(self, place):
        if not is_within(place, 0, self.size()):
            raise NoPlace("this is no place of the shown text")

    def _check_sign(self, sign):
        if not is_within(sign, 0, self.many() - 1):
            raise NoSeat("this is no sign of the sheet")

    def _check_deed(self, number):
        if not is_within(number, 0, self.deeds() - 1):
            raise NoDeed("this is no deed of the sheet")

    def _seat_of(self, sign):
        """Return the seat on which a sign sits."""
        self._check_sign(sign)
        return self._signs[sign].seat_without(self._gone)

    def _seat_ahead(self, place):
        """Return the seat of the shown sign ahead of a place, or None at place 0."""
        if place == 0:
            return None
        return self._row.find(place - 1)

    def _new_seat(self, sign, behind):
        """Set a seat for a sign right behind another one; return the seat."""
        self._owners.append(sign)
        return self._row.add(behind)

    def _bring(self, bringer, behind, text):
        """Make the signs of a text, which a put brings or none; return the list of their numbers."""
        first = self.many()
        for letter in text:
            behind = self._new_seat(self.many(), behind)
            self._signs.append(Sign(letter, bringer, behind))
        return list(range(first, self.many()))

    def _note(self, hand, word, signs):
        """Keep a deed, and show what follows from it; return its number."""
        self._deeds.append((hand, word, signs))
        self._settle(signs)
        return self.deeds() - 1

    def _settle(self, signs):
        """Take, of the seats of these signs, just those on which shown signs sit."""
        for sign in signs:
            # All are freed first: which one it left is not kept anywhere.
            for seat in self._signs[sign].seats():
                self._row.take(seat, False)
            is_shown = self._signs[sign].is_shown_without(self._gone)
            self._row.take(self._seat_of(sign), is_shown)
