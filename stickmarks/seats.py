"""A row of seats, each of them taken or free."""

from stickmarks.checks import is_within
from stickmarks.errors import NoPlace, NoSeat


class Row:
    """Seats in an order; their numbers tell only when they came."""

    def __init__(self):
        # The row is chained from seat to seat: a new one never shifts the others.
        self._first = None
        self._following = []
        self._taken = []

    def add(self, behind):
        """Set a new seat right behind a seat, or at the very beginning (None); return its number."""
        seat = self.many()
        if behind is None:
            self._following.append(self._first)
            self._first = seat
        else:
            self._check_seat(behind)
            self._following.append(self._following[behind])
            self._following[behind] = seat
        self._taken.append(False)
        return seat

    def take(self, seat, is_taken):
        """Let a seat be taken (True) or free (False) from now on."""
        self._check_seat(seat)
        self._taken[seat] = bool(is_taken)

    def is_taken(self, seat):
        """Whether a seat is taken."""
        self._check_seat(seat)
        return self._taken[seat]

    def many(self):
        """Return how many seats there are."""
        return len(self._taken)

    def all_taken(self):
        """Return how many seats are taken."""
        return self._taken.count(True)

    def ahead(self, seat):
        """Return the place of a seat: how many taken ones stand ahead of it."""
        self._check_seat(seat)
        place = 0
        other = self._first
        while other != seat:
            if self._taken[other]:
                place += 1
            other = self._following[other]
        return place

    def find(self, place):
        """Return the taken seat of a place."""
        taken = [seat for seat in self.order() if self._taken[seat]]
        if not is_within(place, 0, len(taken) - 1):
            raise NoPlace("no taken seat has this place")
        return taken[place]

    def is_ahead(self, one, other):
        """Whether a seat stands ahead of another one."""
        self._check_seat(one)
        self._check_seat(other)
        seat = self._following[one]
        while seat is not None and seat != other:
            seat = self._following[seat]
        return seat is not None

    def order(self):
        """Return the list of all seats in order."""
        seats = []
        seat = self._first
        while seat is not None:
            seats.append(seat)
            seat = self._following[seat]
        return seats

    def _check_seat(self, seat):
        if not is_within(seat, 0, self.many() - 1):
            raise NoSeat("this is no seat of the row")
