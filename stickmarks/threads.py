"""Threads, each of which leads from a sign of a sheet to a sign, wherever these go."""

from stickmarks.numbered import Numbered


class Threads:
    """A row of threads of one sheet; where they lead is asked of the sheet anew each time."""

    def __init__(self, sheet):
        self._sheet = sheet
        # Pairs of the first and the last sign of the stretch, as it was when the thread was tied.
        self._threads = Numbered()

    def tie(self, begin, end):
        """Tie a thread from the first shown sign of a stretch to its last one; return its number."""
        signs = self._sheet.stretch(begin, end)
        return self._threads.keep((signs[0], signs[-1]))

    def drop(self, number):
        """Take a thread out."""
        self._threads.drop(number)

    def told(self, number):
        """Return the begin and the end of the stretch over which a thread leads."""
        first, second = self._threads.thing(number)
        # Which of the two is the first one is not kept: a move may take one past the other.
        if self._sheet.is_ahead(second, first):
            first, second = second, first
        begin, _ = self._sheet.place_of(first)
        end, is_shown = self._sheet.place_of(second)
        if is_shown:
            end += 1
        return begin, end

    def numbers(self):
        """Return the rising list of the numbers of all threads."""
        return self._threads.numbers()

    def over(self, place):
        """Return the rising list of the threads of whose told stretch a place is."""
        # Asked for its refusal alone: a thread may lead over a place only where a sign is shown.
        self._sheet.sign_at(place)
        found = []
        for number in self.numbers():
            begin, end = self.told(number)
            if begin <= place < end:
                found.append(number)
        return found
