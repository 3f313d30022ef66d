"""Point 8, and stickmarks/marks.py: marks that stick to signs."""

import unittest

from stickmarks.errors import NoHand, NoMark, NoPlace
from stickmarks.marks import Marks
from stickmarks.sheet import Sheet
from stickmarks.undoing import redo, undo
from tests.plain import kinds, told_by_marks, told_by_sheet
from tests.wrong import beyond, refused


def marked(text, places, hands=1):
    """A sheet, and a row of marks of hand 0 at these of its places."""
    sheet = Sheet(text, hands)
    marks = Marks(sheet)
    for place in places:
        marks.stick(0, place)
    return sheet, marks


class Told(unittest.TestCase):
    def test_a_mark_sticks_to_the_sign_that_is_shown_at_the_place(self):
        sheet, marks = marked("abcd", [])
        sheet.cut(0, 1, 2)
        sheet.put(0, 0, "x")
        for place, sign in enumerate([4, 0, 2, 3]):
            number = marks.stick(0, place)
            self.assertEqual((number, type(number)), (place, int))
            self.assertEqual((marks.sign(number), marks.told(number)), (sign, (place, True)))
            self.assertEqual(kinds(marks.told(number)), (tuple, [int, bool]))

    def test_it_goes_where_its_sign_goes(self):
        sheet, marks = marked("abcd", [2])
        sheet.put(0, 0, "xy")
        self.assertEqual(marks.told(0), (4, True))
        sheet.put(0, 4, "z")
        self.assertEqual(marks.told(0), (5, True))
        sheet.put(0, 6, "w")
        self.assertEqual(marks.told(0), (5, True))
        sheet.cut(0, 1, 3)
        self.assertEqual(marks.told(0), (3, True))
        sheet.move(0, 2, 4, 0)
        self.assertEqual((sheet.text(), marks.told(0)), ("zcxbwd", (1, True)))
        self.assertEqual(marks.sign(0), 2)
        for number, place in [(4, 3), (3, 5), (1, 4), (0, 2)]:
            sheet.take_back(number)
            self.assertEqual((marks.told(0), sheet.letter(marks.sign(0))), ((place, True), "c"))
        for number, place in [(4, 0), (0, 0), (1, 1)]:
            sheet.do_again(number)
            self.assertEqual(marks.told(0), (place, True))

    def test_as_long_as_its_sign_is_gone_it_is_told_by_the_place_where_it_went(self):
        sheet, marks = marked("abcd", [0, 1, 2, 3])
        sheet.cut(0, 1, 3)
        self.assertEqual([marks.told(number) for number in range(4)],
                         [(0, True), (1, False), (1, False), (1, True)])
        sheet.put(0, 0, "xy")
        self.assertEqual([marks.told(number) for number in range(4)],
                         [(2, True), (3, False), (3, False), (3, True)])
        sheet.put(0, 3, "z")
        self.assertEqual((sheet.text(), [marks.told(number)[0] for number in range(4)]), ("xyazd", [2, 4, 4, 4]))
        sheet.cut(0, 0, 5)
        self.assertEqual([marks.told(number) for number in range(4)], [(0, False)] * 4)
        sheet.take_back(0)
        self.assertEqual([marks.told(number) for number in range(4)],
                         [(0, False), (0, True), (1, True), (2, False)])

    def test_one_whose_sign_came_by_a_put_that_is_taken_back(self):
        sheet, marks = marked("ab", [])
        sheet.put(0, 1, "xyz")
        marks.stick(0, 2)
        sheet.take_back(0)
        self.assertEqual((marks.told(0), marks.sign(0)), ((1, False), 3))
        sheet.put(0, 0, "w")
        self.assertEqual(marks.told(0), (2, False))
        sheet.do_again(0)
        self.assertEqual((sheet.text(), marks.told(0)), ("waxyzb", (3, True)))

    def test_one_whose_sign_is_moved_gone_and_moved_back(self):
        sheet, marks = marked("abcd", [0])
        sheet.move(0, 0, 2, 4)
        self.assertEqual(marks.told(0), (2, True))
        sheet.cut(0, 2, 3)
        self.assertEqual(marks.told(0), (2, False))
        sheet.take_back(0)
        self.assertEqual((sheet.text(), marks.told(0)), ("bcd", (0, False)))
        sheet.take_back(1)
        self.assertEqual(marks.told(0), (0, True))
        sheet.do_again(1)
        sheet.do_again(0)
        self.assertEqual(marks.told(0), (2, False))

    def test_it_goes_with_undo_and_redo(self):
        sheet, marks = marked("abcd", [1], 2)
        sheet.move(0, 1, 2, 4)
        sheet.cut(1, 3, 4)
        self.assertEqual(marks.told(0), (3, False))
        for word, hand, told in [(undo, 0, (1, False)), (undo, 1, (1, True)), (redo, 0, (3, True)),
                                 (redo, 1, (3, False))]:
            word(sheet, hand)
            self.assertEqual(marks.told(0), told)

    def test_signs_that_come_later_are_not_marked(self):
        sheet, marks = marked("ab", [0, 1])
        sheet.put(0, 1, "xy")
        self.assertEqual(marks.numbers(), [0, 1])
        self.assertEqual([marks.sign(0), marks.sign(1)], [0, 1])


class Numbers(unittest.TestCase):
    def test_a_new_row_has_no_marks(self):
        _, marks = marked("abc", [])
        self.assertEqual((marks.numbers(), marks.order(), marks.of(0)), ([], [], []))

    def test_none_is_given_twice(self):
        sheet, marks = marked("abc", [2, 0])
        self.assertIsNone(marks.drop(1))
        self.assertEqual(marks.stick(0, 0), 2)
        marks.drop(0)
        marks.drop(2)
        self.assertEqual((marks.numbers(), marks.order()), ([], []))
        self.assertEqual(marks.stick(0, 0), 3)
        for hand, place in [(1, 0), (0, 3), (None, 0), (0, True)]:
            with self.assertRaises((NoHand, NoPlace)):
                marks.stick(hand, place)
        with self.assertRaises(NoMark):
            marks.drop(2)
        self.assertEqual(marks.stick(0, 1), 4)
        self.assertEqual(marks.numbers(), [3, 4])

    def test_numbers_of_all_and_of_each_hand_rise(self):
        sheet = Sheet("abcd", 3)
        marks = Marks(sheet)
        for hand, place in [(1, 3), (0, 2), (1, 0), (0, 0), (1, 1)]:
            marks.stick(hand, place)
        self.assertEqual(marks.numbers(), [0, 1, 2, 3, 4])
        self.assertEqual([marks.of(hand) for hand in range(3)], [[1, 3], [0, 2, 4], []])
        marks.drop(2)
        self.assertEqual(marks.numbers(), [0, 1, 3, 4])
        self.assertEqual([marks.of(hand) for hand in range(3)], [[1, 3], [0, 4], []])
        marks.stick(2, 2)
        marks.stick(0, 1)
        self.assertEqual(marks.numbers(), [0, 1, 3, 4, 5, 6])
        self.assertEqual([marks.of(hand) for hand in range(3)], [[1, 3, 6], [0, 4], [5]])

    def test_a_mark_is_its_hands_whoever_does_what_with_its_sign(self):
        sheet = Sheet("abcd", 2)
        marks = Marks(sheet)
        marks.stick(1, 2)
        sheet.cut(0, 0, 4)
        self.assertEqual((marks.of(0), marks.of(1), marks.numbers()), ([], [0], [0]))


class Order(unittest.TestCase):
    def test_by_seats_and_not_by_numbers(self):
        _, marks = marked("abcd", [2, 0, 3, 1])
        self.assertEqual(marks.order(), [1, 3, 0, 2])

    def test_marks_of_one_sign_stand_by_their_numbers(self):
        sheet, marks = marked("abcd", [2, 0, 2, 1, 0, 2], 2)
        marks.stick(1, 0)
        self.assertEqual(marks.order(), [1, 4, 6, 3, 0, 2, 5])
        marks.drop(2)
        marks.stick(0, 2)
        self.assertEqual(marks.order(), [1, 4, 6, 3, 0, 5, 7])
        sheet.move(0, 2, 3, 0)
        self.assertEqual(marks.order(), [0, 5, 7, 1, 4, 6, 3])

    def test_by_the_seats_also_of_signs_that_are_gone(self):
        sheet, marks = marked("abcdef", [4, 3, 2, 1, 0, 5])
        sheet.cut(0, 1, 5)
        self.assertEqual([marks.told(number)[0] for number in range(6)], [1, 1, 1, 1, 0, 1])
        self.assertEqual(marks.order(), [4, 3, 2, 1, 0, 5])

    def test_it_follows_moves_that_are_done_taken_back_and_done_again(self):
        sheet, marks = marked("abcd", [0, 1, 2, 3])
        sheet.move(0, 0, 1, 3)
        sheet.move(0, 3, 4, 0)
        self.assertEqual((sheet.text(), marks.order()), ("dbca", [3, 1, 2, 0]))
        for word, number, order in [("take_back", 0, [3, 0, 1, 2]), ("take_back", 1, [0, 1, 2, 3]),
                                    ("do_again", 0, [1, 2, 0, 3]), ("do_again", 1, [3, 1, 2, 0])]:
            getattr(sheet, word)(number)
            self.assertEqual(marks.order(), order)

    def test_a_gone_sign_that_was_moved_stands_where_it_was_moved(self):
        sheet, marks = marked("abcd", [0, 1, 2, 3])
        sheet.move(0, 0, 2, 3)
        sheet.cut(0, 0, 4)
        self.assertEqual(marks.order(), [2, 0, 1, 3])
        sheet.take_back(0)
        self.assertEqual(marks.order(), [0, 1, 2, 3])

    def test_it_lists_marks_and_no_signs_without_one(self):
        sheet, marks = marked("abcd", [3, 1])
        sheet.put(0, 0, "xyz")
        self.assertEqual(marks.order(), [1, 0])


class Rows(unittest.TestCase):
    def test_each_row_of_a_sheet_is_by_itself(self):
        sheet, one = marked("abcd", [1, 3], 2)
        other = Marks(sheet)
        self.assertEqual((other.numbers(), other.order(), other.of(0)), ([], [], []))
        self.assertEqual((other.stick(1, 0), other.stick(0, 2), other.stick(1, 3)), (0, 1, 2))
        one.drop(0)
        other.drop(2)
        sheet.move(0, 0, 1, 4)
        self.assertEqual(told_by_marks(one, 2), {
            "numbers": [1], "of": [[1], []], "sign": [3], "told": [(2, True)], "order": [1]})
        self.assertEqual(told_by_marks(other, 2), {
            "numbers": [0, 1], "of": [[1], [0]], "sign": [0, 2], "told": [(3, True), (1, True)], "order": [1, 0]})
        self.assertEqual((one.stick(0, 0), other.stick(0, 0)), (2, 3))

    def test_a_row_may_be_made_whenever(self):
        sheet, early = marked("abcd", [0, 1, 2, 3])
        sheet.cut(0, 1, 2)
        sheet.move(0, 0, 1, 3)
        late = Marks(sheet)
        self.assertEqual(sheet.text(), "cda")
        for place in [0, 1, 2]:
            late.stick(0, place)
        for number in [0, 1]:
            sheet.take_back(number)
        self.assertEqual([late.told(number) for number in range(3)], [(2, True), (3, True), (0, True)])
        self.assertEqual((late.order(), early.order()), ([2, 0, 1], [0, 1, 2, 3]))

    def test_rows_of_two_sheets_have_nothing_in_common(self):
        sheet, marks = marked("abcd", [1])
        other, others = marked("abcd", [1])
        sheet.cut(0, 0, 2)
        self.assertEqual((marks.told(0), others.told(0)), ((0, False), (1, True)))

    def test_marks_do_nothing_to_the_sheet(self):
        sheet, _ = marked("abcd", [], 2)
        sheet.put(0, 1, "x")
        sheet.cut(1, 0, 2)
        before = told_by_sheet(sheet, 2)
        marks = Marks(sheet)
        for place in [0, 1, 0]:
            marks.stick(1, place)
        told_by_marks(marks, 2)
        marks.drop(1)
        self.assertEqual(told_by_sheet(sheet, 2), before)


class Own(unittest.TestCase):
    def setUp(self):
        self.sheet, self.marks = marked("abcd", [2, 0, 2], 2)
        self.marks.stick(1, 1)

    def lists(self):
        return [self.marks.numbers(), self.marks.order(), self.marks.of(0), self.marks.of(1)]

    def test_what_was_told_is_the_askers_own(self):
        before, numbers = told_by_marks(self.marks, 2), self.lists()
        for told in self.lists():
            told.reverse()
            told.append(99)
            del told[0]
        self.assertEqual((told_by_marks(self.marks, 2), self.lists()), (before, numbers))
        self.assertEqual(self.marks.stick(0, 0), 4)

    def test_what_was_told_is_not_changed_by_what_is_done_later(self):
        kept = self.lists()
        self.sheet.move(0, 0, 1, 4)
        self.marks.drop(2)
        self.marks.stick(1, 0)
        self.marks.stick(0, 0)
        self.assertEqual(kept, [[0, 1, 2, 3], [1, 3, 0, 2], [0, 1, 2], [3]])


class WrongInputs(unittest.TestCase):
    def setUp(self):
        self.sheet, self.marks = marked("abcd", [2, 0, 1], 2)
        self.marks.stick(1, 3)
        self.marks.drop(2)
        self.sheet.cut(0, 0, 1)

    def told(self):
        return told_by_marks(self.marks, 2), told_by_sheet(self.sheet, 2)

    def refuse(self, error, *asks):
        for ask in asks:
            refused(self, error, ask, self.told)

    def test_what_is_no_hand(self):
        for hand in beyond(0, 1):
            self.refuse(NoHand, lambda: self.marks.stick(hand, 0), lambda: self.marks.of(hand))

    def test_no_hand_comes_ahead_of_no_place(self):
        for hand in [2, -1, True, None, "0", [0], {}]:
            for place in [3, -1, True, None, "0", [0], {}]:
                self.refuse(NoHand, lambda: self.marks.stick(hand, place))

    def test_no_place_where_no_sign_is_shown(self):
        for place in beyond(0, 2):
            self.refuse(NoPlace, lambda: self.marks.stick(1, place))
        empty, marks = marked("", [])
        for place in [0, 1, -1]:
            refused(self, NoPlace, lambda: marks.stick(0, place), lambda: told_by_marks(marks, 1))

    def test_the_number_of_none_that_is_there(self):
        for number in beyond(0, 3) + [2]:
            self.refuse(NoMark, lambda: self.marks.drop(number), lambda: self.marks.sign(number),
                        lambda: self.marks.told(number))
        _, marks = marked("ab", [])
        for number in [0, -1, None, True]:
            for ask in [lambda: marks.drop(number), lambda: marks.sign(number), lambda: marks.told(number)]:
                refused(self, NoMark, ask, lambda: told_by_marks(marks, 1))

    def test_no_mark_is_dropped_twice(self):
        self.marks.drop(0)
        self.refuse(NoMark, lambda: self.marks.drop(0), lambda: self.marks.told(0), lambda: self.marks.sign(0))
        self.assertEqual(self.marks.numbers(), [1, 3])

    def test_what_was_refused_takes_no_number(self):
        self.refuse(NoHand, lambda: self.marks.stick(2, 0))
        self.refuse(NoPlace, lambda: self.marks.stick(0, 3))
        self.refuse(NoMark, lambda: self.marks.drop(4))
        self.assertEqual(self.marks.stick(0, 2), 4)
