"""One sign: what the deeds did with it, and what follows from those that stand."""


class Sign:
    """A letter that came, the deeds that touched it, and its seats."""

    def __init__(self, glyph, bringer, seat):
        self.glyph = glyph
        # The number of the put that brought it; None if it came with the first text.
        self.bringer = bringer
        self.first_seat = seat
        self.cutters = []
        # Pairs of a move and the seat that it gave, rising by the numbers of the moves.
        self.moves = []

    def seats(self):
        """Return the list of all seats that it ever got."""
        return [self.first_seat] + [seat for _, seat in self.moves]

    def seat_without(self, gone):
        """Return the seat on which it sits if just the deeds that are in gone do not stand."""
        seat = self.first_seat
        for mover, moved_to in self.moves:
            if mover not in gone:
                seat = moved_to
        return seat

    def is_shown_without(self, gone):
        """Whether it is shown if just the deeds that are in gone do not stand."""
        if self.bringer in gone:
            return False
        return all([cutter in gone for cutter in self.cutters])
