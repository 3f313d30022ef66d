"""Point 2, and stickmarks/seats.py: a row of seats."""

import random
import unittest

from stickmarks.errors import NoPlace, NoSeat
from stickmarks.seats import Row
from tests.plain import PlainRow, kinds, told_by_row
from tests.wrong import beyond, refused


def row_of(behinds, taken=()):
    """A row with a seat behind each of these, and with those taken."""
    row = Row()
    for behind in behinds:
        row.add(behind)
    for seat in taken:
        row.take(seat, True)
    return row


class Seats(unittest.TestCase):
    def test_a_new_row_has_no_seats(self):
        row = Row()
        self.assertEqual((row.many(), row.all_taken(), row.order()), (0, 0, []))

    def test_seats_are_numbered_from_nought_as_they_come(self):
        row = Row()
        self.assertEqual([row.add(None), row.add(None), row.add(0), row.add(1), row.add(3)], [0, 1, 2, 3, 4])
        self.assertEqual(row.many(), 5)

    def test_a_new_seat_is_right_behind_another_one_or_at_the_very_beginning(self):
        row = Row()
        orders = []
        for behind in [None, 0, 0, None, 1, 3, 2]:
            row.add(behind)
            orders.append(row.order())
        self.assertEqual(orders, [
            [0], [0, 1], [0, 2, 1], [3, 0, 2, 1], [3, 0, 2, 1, 4], [3, 5, 0, 2, 1, 4], [3, 5, 0, 2, 6, 1, 4]])

    def test_a_new_seat_is_free(self):
        row = row_of([None, 0], [0, 1])
        self.assertIs(row.is_taken(row.add(0)), False)
        self.assertIs(row.is_taken(row.add(None)), False)
        self.assertEqual(row.all_taken(), 2)

    def test_a_seat_is_taken_and_freed_also_twice_the_same(self):
        row = row_of([None, 0, 1])
        for is_taken, all_taken in [(True, 1), (True, 1), (False, 0), (False, 0), (True, 1)]:
            self.assertIsNone(row.take(1, is_taken))
            self.assertIs(row.is_taken(1), is_taken)
            self.assertEqual(row.all_taken(), all_taken)
            self.assertEqual([row.is_taken(0), row.is_taken(2)], [False, False])
            self.assertEqual(row.order(), [0, 1, 2])

    def test_the_place_of_a_seat_is_how_many_taken_ones_stand_ahead(self):
        row = row_of([None, 0, 1, 2, None], [1, 3, 4])
        self.assertEqual(row.order(), [4, 0, 1, 2, 3])
        self.assertEqual([row.ahead(seat) for seat in [4, 0, 1, 2, 3]], [0, 1, 1, 2, 2])

    def test_find_gives_the_taken_seat_of_a_place(self):
        row = row_of([None, 0, 1, 2, None], [1, 3, 4])
        self.assertEqual([row.find(0), row.find(1), row.find(2)], [4, 1, 3])

    def test_is_ahead_goes_by_the_row_and_not_by_the_numbers(self):
        row = row_of([None, None, 0])
        self.assertEqual(row.order(), [1, 0, 2])
        for one, other in [(1, 0), (1, 2), (0, 2)]:
            self.assertIs(row.is_ahead(one, other), True)
            self.assertIs(row.is_ahead(other, one), False)
        for seat in range(3):
            self.assertIs(row.is_ahead(seat, seat), False)

    def test_two_rows_have_nothing_in_common(self):
        one = row_of([None, 0], [0])
        other = row_of([None])
        self.assertEqual((one.many(), one.all_taken()), (2, 1))
        self.assertEqual((other.many(), other.all_taken(), other.is_taken(0)), (1, 0, False))

    def test_what_order_told_is_the_askers_own(self):
        row = row_of([None, 0, 1], [0, 2])
        before = told_by_row(row)
        told = row.order()
        told.reverse()
        told.append("x")
        del told[0]
        self.assertEqual(told_by_row(row), before)
        kept = row.order()
        row.add(0)
        row.add(None)
        row.take(1, True)
        self.assertEqual(kept, [0, 1, 2])


class AgainstAList(unittest.TestCase):
    def agree(self, row, plain):
        told = told_by_row(row)
        self.assertEqual(told, plain.told())
        self.assertEqual(kinds(told), kinds(plain.told()))

    def test_every_small_row(self):
        for second in [None, 0]:
            for third in [None, 0, 1]:
                for fourth in [None, 0, 1, 2]:
                    for mask in range(16):
                        row, plain = Row(), PlainRow()
                        for behind in [None, second, third, fourth]:
                            self.assertEqual(row.add(behind), plain.add(behind))
                        for seat in range(4):
                            row.take(seat, mask >> seat & 1 == 1)
                            plain.take(seat, mask >> seat & 1 == 1)
                        self.agree(row, plain)

    def grow(self, chance, count, looks):
        """Add and take by chance; look at all that is told every so often."""
        row, plain = Row(), PlainRow()
        for step in range(count):
            behind = chance.choice([None, step - 1, chance.randrange(step)]) if step else None
            self.assertEqual(row.add(behind), plain.add(behind))
            for _ in range(2):
                seat, is_taken = chance.randrange(step + 1), chance.random() < 0.6
                row.take(seat, is_taken)
                plain.take(seat, is_taken)
            if step % looks == 0:
                self.agree(row, plain)
        self.agree(row, plain)

    def test_rows_of_a_few_seats(self):
        for seed in range(40):
            self.grow(random.Random(seed), 12, 1)

    def test_rows_of_a_hundred_seats_and_more(self):
        for seed in range(4):
            self.grow(random.Random(seed), 130, 10)
        self.grow(random.Random(9), 400, 200)

    def test_two_hundred_seats_at_the_very_beginning_and_all_behind_one(self):
        front, behind_one = Row(), Row()
        behind_one.add(None)
        for _ in range(200):
            front.add(None)
            behind_one.add(0)
        self.assertEqual(front.order(), list(range(199, -1, -1)))
        self.assertEqual(behind_one.order(), [0] + list(range(200, 0, -1)))


class WrongInputs(unittest.TestCase):
    def test_what_is_no_seat(self):
        row = row_of([None, None, 0], [0, 2])
        for seat in beyond(0, 2):
            for ask in [lambda: row.take(seat, True), lambda: row.take(seat, False), lambda: row.is_taken(seat),
                        lambda: row.ahead(seat), lambda: row.is_ahead(seat, 0), lambda: row.is_ahead(0, seat),
                        lambda: row.is_ahead(seat, seat)]:
                refused(self, NoSeat, ask, lambda: told_by_row(row))

    def test_no_new_seat_is_set_behind_what_is_no_seat(self):
        row = row_of([None, None, 0], [0, 2])
        for seat in beyond(0, 2):
            if seat is not None:
                refused(self, NoSeat, lambda: row.add(seat), lambda: told_by_row(row))
        self.assertEqual(row.add(2), 3)

    def test_an_empty_row_has_no_seat_at_all(self):
        row = Row()
        for seat in [0, -1]:
            refused(self, NoSeat, lambda: row.add(seat), lambda: told_by_row(row))
            refused(self, NoSeat, lambda: row.take(seat, True), lambda: told_by_row(row))
            refused(self, NoSeat, lambda: row.ahead(seat), lambda: told_by_row(row))

    def test_what_is_no_place(self):
        row = row_of([None, None, 0, 0], [0, 2])
        for place in beyond(0, 1):
            refused(self, NoPlace, lambda: row.find(place), lambda: told_by_row(row))

    def test_no_place_where_all_seats_are_free(self):
        for row in [Row(), row_of([None, 0])]:
            for place in [0, -1, 1]:
                refused(self, NoPlace, lambda: row.find(place), lambda: told_by_row(row))
