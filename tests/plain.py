"""Plain twins of the classes: slow, by the words of the document, sharing nothing with the program."""


class PlainRow:
    """A row of seats as a plain list of their numbers."""

    def __init__(self):
        self.seats = []
        self.taken = set()

    def add(self, behind):
        seat = len(self.seats)
        self.seats.insert(0 if behind is None else self.seats.index(behind) + 1, seat)
        return seat

    def take(self, seat, is_taken):
        if is_taken:
            self.taken.add(seat)
        else:
            self.taken.discard(seat)

    def told(self):
        """Everything that a row tells, worked out anew."""
        count = len(self.seats)
        ranks = [self.seats.index(seat) for seat in range(count)]
        taken = [seat for seat in self.seats if seat in self.taken]
        return {
            "many": count,
            "all_taken": len(taken),
            "order": list(self.seats),
            "is_taken": [seat in self.taken for seat in range(count)],
            "ahead": [len([other for other in taken if ranks[other] < ranks[seat]]) for seat in range(count)],
            "find": taken,
            "is_ahead": [[ranks[one] < ranks[other] for other in range(count)] for one in range(count)],
        }


def told_by_row(row):
    """The same of a row of the program."""
    seats = range(row.many())
    return {
        "many": row.many(),
        "all_taken": row.all_taken(),
        "order": row.order(),
        "is_taken": [row.is_taken(seat) for seat in seats],
        "ahead": [row.ahead(seat) for seat in seats],
        "find": [row.find(place) for place in range(row.all_taken())],
        "is_ahead": [[row.is_ahead(one, other) for other in seats] for one in seats],
    }


class PlainSheet:
    """A sheet as the list of its deeds and of which of them stand; all else is worked out anew."""

    def __init__(self, text, hands):
        self.hands = hands
        self.letters = list(text)
        # A seat is a pair of its sign and the number of the move that gave it (-1: its first one).
        self.seats = [(sign, -1) for sign in range(len(text))]
        self.done = []
        self.standing = set()
        self.taken_back = []

    def seat(self, sign):
        movers = [number for number, (_, word, signs) in enumerate(self.done)
                  if word == "move" and sign in signs and number in self.standing]
        return sign, max(movers, default=-1)

    def is_shown(self, sign):
        for number, (_, word, signs) in enumerate(self.done):
            if sign in signs:
                if word == "put" and number not in self.standing:
                    return False
                if word == "cut" and number in self.standing:
                    return False
        return True

    def shown(self):
        return [sign for sign, mover in self.seats if self.seat(sign) == (sign, mover) and self.is_shown(sign)]

    def text(self):
        return "".join(self.letters[sign] for sign in self.shown())

    def rank_at(self, place):
        """Where in the list of seats those go that come to a place."""
        return 0 if place == 0 else self.seats.index(self.seat(self.shown()[place - 1])) + 1

    def put(self, hand, place, text):
        signs = list(range(len(self.letters), len(self.letters) + len(text)))
        rank = self.rank_at(place)
        self.letters.extend(text)
        self.seats[rank:rank] = [(sign, -1) for sign in signs]
        return self.note(hand, "put", signs)

    def cut(self, hand, begin, end):
        return self.note(hand, "cut", self.shown()[begin:end])

    def move(self, hand, begin, end, place):
        signs = self.shown()[begin:end]
        rank = self.rank_at(place)
        self.seats[rank:rank] = [(sign, len(self.done)) for sign in signs]
        return self.note(hand, "move", signs)

    def note(self, hand, word, signs):
        number = len(self.done)
        self.done.append((hand, word, signs))
        self.standing.add(number)
        return number

    def take_back(self, number):
        self.standing.remove(number)
        self.taken_back.append(number)

    def do_again(self, number):
        assert number not in self.standing
        self.standing.add(number)

    def last_standing(self, hand):
        return max((number for number in self.standing if self.done[number][0] == hand), default=None)

    def last_gone(self, hand):
        for number in reversed(self.taken_back):
            if number not in self.standing and self.done[number][0] == hand:
                return number
        return None

    def undo(self, hand):
        number = self.last_standing(hand)
        self.take_back(number)
        return number

    def redo(self, hand):
        number = self.last_gone(hand)
        self.do_again(number)
        return number

    def told(self):
        """Everything that a sheet tells, worked out anew."""
        count = len(self.letters)
        shown = self.shown()
        ranks = [self.seats.index(self.seat(sign)) for sign in range(count)]
        places = [len([other for other in shown if ranks[other] < ranks[sign]]) for sign in range(count)]
        return {
            "text": self.text(),
            "size": len(shown),
            "shown": shown,
            "many": count,
            "letter": list(self.letters),
            "sign_at": shown,
            "place_of": [(places[sign], sign in shown) for sign in range(count)],
            "is_ahead": [[ranks[one] < ranks[other] for other in range(count)] for one in range(count)],
            "deeds": len(self.done),
            "deed": [(hand, word, list(signs)) for hand, word, signs in self.done],
            "stands": [number in self.standing for number in range(len(self.done))],
            "last_standing": [self.last_standing(hand) for hand in range(self.hands)],
            "last_gone": [self.last_gone(hand) for hand in range(self.hands)],
        }


def told_by_sheet(sheet, hands):
    """The same of a sheet of the program."""
    signs = range(sheet.many())
    return {
        "text": sheet.text(),
        "size": sheet.size(),
        "shown": sheet.shown(),
        "many": sheet.many(),
        "letter": [sheet.letter(sign) for sign in signs],
        "sign_at": [sheet.sign_at(place) for place in range(sheet.size())],
        "place_of": [sheet.place_of(sign) for sign in signs],
        "is_ahead": [[sheet.is_ahead(one, other) for other in signs] for one in signs],
        "deeds": sheet.deeds(),
        "deed": [sheet.deed(number) for number in range(sheet.deeds())],
        "stands": [sheet.stands(number) for number in range(sheet.deeds())],
        "last_standing": [sheet.last_standing(hand) for hand in range(hands)],
        "last_gone": [sheet.last_gone(hand) for hand in range(hands)],
    }


class PlainMarks:
    """Marks of a plain sheet as a list of all that ever were stuck, None for one that was dropped."""

    def __init__(self, sheet):
        self.sheet = sheet
        self.stuck = []

    def stick(self, hand, place):
        self.stuck.append((hand, self.sheet.shown()[place]))
        return len(self.stuck) - 1

    def drop(self, number):
        self.stuck[number] = None

    def told(self):
        """Everything that a row of marks tells, worked out anew."""
        there = {number: mark for number, mark in enumerate(self.stuck) if mark is not None}
        places = self.sheet.told()["place_of"]
        ranks = {number: self.sheet.seats.index(self.sheet.seat(sign)) for number, (_, sign) in there.items()}
        return {
            "numbers": list(there),
            "of": [[number for number in there if there[number][0] == hand] for hand in range(self.sheet.hands)],
            "sign": [there[number][1] for number in there],
            "told": [places[there[number][1]] for number in there],
            "order": sorted(there, key=lambda number: (ranks[number], number)),
        }


def told_by_marks(marks, hands):
    """The same of a row of marks of the program."""
    numbers = marks.numbers()
    return {
        "numbers": numbers,
        "of": [marks.of(hand) for hand in range(hands)],
        "sign": [marks.sign(number) for number in numbers],
        "told": [marks.told(number) for number in numbers],
        "order": marks.order(),
    }


class PlainThreads:
    """Threads of a plain sheet as a list of all that ever were tied, None for one that was dropped."""

    def __init__(self, sheet):
        self.sheet = sheet
        self.tied = []

    def tie(self, begin, end):
        shown = self.sheet.shown()
        self.tied.append((shown[begin], shown[end - 1]))
        return len(self.tied) - 1

    def drop(self, number):
        self.tied[number] = None

    def told(self):
        """Everything that a row of threads tells, worked out anew."""
        there = {number: thread for number, thread in enumerate(self.tied) if thread is not None}
        places = self.sheet.told()["place_of"]
        stretches = {}
        for number, signs in there.items():
            first, second = sorted(signs, key=lambda sign: self.sheet.seats.index(self.sheet.seat(sign)))
            place, is_shown = places[second]
            stretches[number] = places[first][0], place + 1 if is_shown else place
        return {
            "numbers": list(there),
            "told": list(stretches.values()),
            "over": [[number for number, (begin, end) in stretches.items() if place in range(begin, end)]
                     for place in range(len(self.sheet.shown()))],
        }


def told_by_threads(threads, size):
    """The same of a row of threads of the program, whose sheet shows so many signs."""
    numbers = threads.numbers()
    return {
        "numbers": numbers,
        "told": [threads.told(number) for number in numbers],
        "over": [threads.over(place) for place in range(size)],
    }


def kinds(value):
    """The kinds of a value and of all that it holds: == takes True for 1, this does not."""
    if isinstance(value, dict):
        return {key: kinds(value[key]) for key in value}
    if isinstance(value, (list, tuple)):
        return type(value), [kinds(item) for item in value]
    return type(value)
