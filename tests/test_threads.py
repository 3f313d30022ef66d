"""Point 9, and stickmarks/threads.py: threads that lead from a sign to a sign."""

import unittest

from stickmarks.errors import NoMark, NoPlace
from stickmarks.sheet import Sheet
from stickmarks.threads import Threads
from stickmarks.undoing import redo, undo
from tests.plain import kinds, told_by_sheet, told_by_threads
from tests.test_sheet import stretches
from tests.wrong import beyond, refused


def threaded(text, tied, hands=1):
    """A sheet, and a row of threads over these of its stretches."""
    sheet = Sheet(text, hands)
    threads = Threads(sheet)
    for begin, end in tied:
        threads.tie(begin, end)
    return sheet, threads


class Told(unittest.TestCase):
    def test_every_stretch(self):
        _, threads = threaded("abcd", [])
        for count, (begin, end) in enumerate(stretches(4)):
            number = threads.tie(begin, end)
            self.assertEqual((number, type(number)), (count, int))
            self.assertEqual(threads.told(number), (begin, end))
            self.assertEqual(kinds(threads.told(number)), (tuple, [int, int]))

    def test_every_stretch_when_any_other_one_was_cut_or_moved(self):
        for begin, end in stretches(4):
            for first, behind in stretches(4):
                sheet, threads = threaded("abcd", [(begin, end)])
                sheet.cut(0, first, behind)
                rest = [sign for sign in range(4) if not first <= sign < behind]
                left = [sign for sign in rest if begin <= sign < end]
                ahead = len([sign for sign in rest if sign < begin])
                self.assertEqual(threads.told(0), (ahead, ahead + len(left)))
                sheet.take_back(0)
                self.assertEqual(threads.told(0), (begin, end))

    def test_it_grows_and_shrinks_between_its_ends(self):
        sheet, threads = threaded("abcd", [(1, 3)])
        sheet.put(0, 2, "xy")
        self.assertEqual(threads.told(0), (1, 5))
        sheet.put(0, 1, "z")
        self.assertEqual(threads.told(0), (2, 6))
        sheet.put(0, 6, "w")
        self.assertEqual((sheet.text(), threads.told(0)), ("azbxycwd", (2, 6)))
        sheet.cut(0, 3, 4)
        self.assertEqual(threads.told(0), (2, 5))
        for word, number, told in [("take_back", 1, (1, 4)), ("take_back", 3, (1, 5)), ("take_back", 0, (1, 3)),
                                   ("do_again", 3, (1, 3)), ("do_again", 0, (1, 4)), ("do_again", 1, (2, 5))]:
            getattr(sheet, word)(number)
            self.assertEqual(threads.told(0), told)

    def test_its_first_sign_is_gone(self):
        sheet, threads = threaded("abcde", [(1, 4)])
        sheet.cut(0, 0, 2)
        self.assertEqual((sheet.text(), threads.told(0)), ("cde", (0, 2)))
        sheet.put(0, 0, "x")
        self.assertEqual(threads.told(0), (1, 3))
        sheet.take_back(0)
        self.assertEqual((sheet.text(), threads.told(0)), ("xabcde", (2, 5)))

    def test_its_last_sign_is_gone(self):
        sheet, threads = threaded("abcde", [(1, 4)])
        sheet.cut(0, 3, 4)
        self.assertEqual((sheet.text(), threads.told(0)), ("abce", (1, 3)))
        sheet.put(0, 3, "x")
        self.assertEqual((sheet.text(), threads.told(0)), ("abcxe", (1, 4)))
        sheet.take_back(0)
        self.assertEqual((sheet.text(), threads.told(0)), ("abcxde", (1, 5)))

    def test_both_of_its_signs_are_gone(self):
        sheet, threads = threaded("abcde", [(1, 4)])
        sheet.cut(0, 1, 2)
        sheet.cut(0, 2, 3)
        self.assertEqual((sheet.text(), threads.told(0)), ("ace", (1, 2)))
        sheet.cut(0, 1, 2)
        self.assertEqual((sheet.text(), threads.told(0)), ("ae", (1, 1)))
        sheet.cut(0, 0, 2)
        self.assertEqual((sheet.text(), threads.told(0)), ("", (0, 0)))

    def test_one_of_a_single_sign(self):
        sheet, threads = threaded("abc", [(1, 2)])
        sheet.move(0, 1, 2, 0)
        self.assertEqual(threads.told(0), (0, 1))
        sheet.cut(0, 0, 1)
        self.assertEqual(threads.told(0), (0, 0))
        sheet.take_back(0)
        self.assertEqual(threads.told(0), (1, 1))
        sheet.take_back(1)
        self.assertEqual(threads.told(0), (1, 2))

    def test_one_end_is_moved_past_the_other(self):
        for begin, end, place, text, told in [(1, 2, 5, "acdeb", (2, 5)), (3, 4, 0, "dabce", (0, 3)),
                                              (0, 3, 5, "deabc", (0, 4)), (3, 5, 0, "deabc", (0, 4))]:
            sheet, threads = threaded("abcde", [(1, 4)])
            sheet.move(0, begin, end, place)
            self.assertEqual((sheet.text(), threads.told(0)), (text, told))
            sheet.take_back(0)
            self.assertEqual(threads.told(0), (1, 4))
            sheet.do_again(0)
            self.assertEqual(threads.told(0), told)

    def test_ends_that_are_past_each_other_and_gone(self):
        sheet, threads = threaded("abcde", [(1, 4)])
        sheet.move(0, 1, 2, 5)
        sheet.cut(0, 4, 5)
        self.assertEqual((sheet.text(), threads.told(0)), ("acde", (2, 4)))
        sheet.cut(0, 2, 3)
        self.assertEqual((sheet.text(), threads.told(0)), ("ace", (2, 3)))
        sheet.take_back(1)
        self.assertEqual((sheet.text(), threads.told(0)), ("aceb", (2, 4)))
        sheet.take_back(0)
        self.assertEqual((sheet.text(), threads.told(0)), ("abce", (1, 3)))

    def test_the_order_goes_by_the_seats_also_where_both_have_one_place(self):
        sheet, threads = threaded("ab", [(0, 2)])
        sheet.move(0, 0, 1, 2)
        sheet.cut(0, 0, 1)
        self.assertEqual((sheet.text(), threads.told(0)), ("a", (0, 1)))
        sheet.take_back(1)
        sheet.cut(0, 1, 2)
        self.assertEqual((sheet.text(), threads.told(0)), ("b", (0, 1)))
        sheet.take_back(0)
        self.assertEqual((sheet.text(), threads.told(0)), ("b", (0, 1)))
        sheet, threads = threaded("ab", [(0, 2)])
        sheet.cut(0, 1, 2)
        self.assertEqual((sheet.text(), threads.told(0)), ("a", (0, 1)))
        sheet.move(0, 0, 1, 1)
        self.assertEqual((sheet.text(), threads.told(0)), ("a", (0, 1)))

    def test_signs_of_puts_that_are_taken_back(self):
        sheet, threads = threaded("ab", [])
        sheet.put(0, 1, "xy")
        threads.tie(0, 2)
        threads.tie(2, 4)
        sheet.take_back(0)
        self.assertEqual([threads.told(0), threads.told(1)], [(0, 1), (1, 2)])
        sheet.do_again(0)
        self.assertEqual([threads.told(0), threads.told(1)], [(0, 2), (2, 4)])

    def test_it_goes_with_undo_and_redo(self):
        sheet, threads = threaded("abcd", [(0, 3)], 2)
        sheet.move(0, 0, 1, 4)
        sheet.cut(1, 1, 2)
        self.assertEqual((sheet.text(), threads.told(0)), ("bda", (1, 3)))
        for word, hand, told in [(undo, 0, (0, 2)), (undo, 1, (0, 3)), (redo, 0, (1, 4)), (redo, 1, (1, 3))]:
            word(sheet, hand)
            self.assertEqual(threads.told(0), told)

    def test_a_stretch_is_of_shown_signs(self):
        sheet, threads = threaded("abcde", [])
        sheet.cut(0, 1, 3)
        threads.tie(0, 2)
        sheet.cut(0, 1, 2)
        self.assertEqual(threads.told(0), (0, 1))
        sheet.take_back(0)
        self.assertEqual((sheet.text(), threads.told(0)), ("abce", (0, 3)))


class Over(unittest.TestCase):
    def over(self, sheet, threads):
        return [threads.over(place) for place in range(sheet.size())]

    def test_from_the_begin_up_to_the_one_ahead_of_the_end(self):
        sheet, threads = threaded("abcde", [(3, 5), (1, 4), (2, 3)])
        self.assertEqual(self.over(sheet, threads), [[], [1], [1, 2], [0, 1], [0]])

    def test_it_goes_by_what_is_told_now(self):
        sheet, threads = threaded("abcde", [(3, 5), (1, 4), (2, 3)])
        sheet.move(0, 1, 2, 5)
        self.assertEqual([threads.told(number) for number in range(3)], [(2, 4), (2, 5), (1, 2)])
        self.assertEqual(self.over(sheet, threads), [[], [2], [0, 1], [0, 1], [1]])
        sheet.cut(0, 1, 2)
        self.assertEqual(self.over(sheet, threads), [[], [0, 1], [0, 1], [1]])
        sheet.put(0, 2, "xy")
        self.assertEqual(self.over(sheet, threads), [[], [0, 1], [0, 1], [0, 1], [0, 1], [1]])

    def test_a_thread_of_no_shown_sign_is_over_no_place(self):
        sheet, threads = threaded("abc", [(1, 2)])
        sheet.cut(0, 1, 2)
        self.assertEqual(self.over(sheet, threads), [[], []])

    def test_many_rise_also_behind_drops(self):
        sheet, threads = threaded("ab", [(0, 2)] * 12)
        for number in [3, 0, 11]:
            threads.drop(number)
        threads.tie(1, 2)
        there = [1, 2, 4, 5, 6, 7, 8, 9, 10]
        self.assertEqual(self.over(sheet, threads), [there, there + [12]])


class Numbers(unittest.TestCase):
    def test_a_new_row_has_no_threads(self):
        _, threads = threaded("abc", [])
        self.assertEqual((threads.numbers(), threads.over(0)), ([], []))

    def test_none_is_given_twice(self):
        _, threads = threaded("abc", [(0, 1), (1, 3)])
        self.assertIsNone(threads.drop(1))
        self.assertEqual(threads.tie(0, 3), 2)
        threads.drop(0)
        threads.drop(2)
        self.assertEqual(threads.numbers(), [])
        self.assertEqual(threads.tie(0, 1), 3)
        for begin, end in [(0, 4), (1, 1), (None, 2), (0, True)]:
            with self.assertRaises(NoPlace):
                threads.tie(begin, end)
        with self.assertRaises(NoMark):
            threads.drop(2)
        self.assertEqual(threads.tie(1, 2), 4)
        self.assertEqual(threads.numbers(), [3, 4])


class Rows(unittest.TestCase):
    def test_each_row_of_a_sheet_is_by_itself(self):
        sheet, one = threaded("abcd", [(0, 2), (1, 4)])
        other = Threads(sheet)
        self.assertEqual(other.numbers(), [])
        self.assertEqual((other.tie(2, 3), other.tie(0, 1), other.tie(0, 4)), (0, 1, 2))
        one.drop(0)
        other.drop(2)
        sheet.move(0, 0, 1, 4)
        self.assertEqual(told_by_threads(one, 4), {
            "numbers": [1], "told": [(0, 3)], "over": [[1], [1], [1], []]})
        self.assertEqual(told_by_threads(other, 4), {
            "numbers": [0, 1], "told": [(1, 2), (3, 4)], "over": [[], [0], [], [1]]})
        self.assertEqual((one.tie(0, 1), other.tie(0, 1)), (2, 3))

    def test_a_row_may_be_made_whenever(self):
        sheet, early = threaded("abcd", [(0, 2)])
        sheet.cut(0, 1, 2)
        sheet.move(0, 0, 1, 3)
        late = Threads(sheet)
        self.assertEqual(sheet.text(), "cda")
        late.tie(1, 3)
        self.assertEqual((early.told(0), late.told(0)), ((0, 3), (1, 3)))
        sheet.take_back(1)
        sheet.take_back(0)
        self.assertEqual((early.told(0), late.told(0)), ((0, 2), (0, 4)))

    def test_threads_do_nothing_to_the_sheet(self):
        sheet, _ = threaded("abcd", [])
        sheet.put(0, 1, "x")
        sheet.cut(0, 0, 2)
        before = told_by_sheet(sheet, 1)
        threads = Threads(sheet)
        threads.tie(0, 3)
        threads.tie(1, 2)
        told_by_threads(threads, 3)
        threads.drop(1)
        self.assertEqual(told_by_sheet(sheet, 1), before)


class Own(unittest.TestCase):
    def setUp(self):
        self.sheet, self.threads = threaded("abcd", [(2, 4), (0, 3), (1, 3)])

    def lists(self):
        return [self.threads.numbers()] + [self.threads.over(place) for place in range(self.sheet.size())]

    def test_what_was_told_is_the_askers_own(self):
        before = told_by_threads(self.threads, 4)
        for told in self.lists():
            told.reverse()
            told.append(99)
            del told[0]
        self.assertEqual(told_by_threads(self.threads, 4), before)
        self.assertEqual(self.threads.tie(0, 1), 3)

    def test_what_was_told_is_not_changed_by_what_is_done_later(self):
        kept = self.lists()
        self.sheet.move(0, 0, 1, 4)
        self.threads.drop(2)
        self.threads.tie(0, 4)
        self.assertEqual(kept, [[0, 1, 2], [1], [1, 2], [0, 1, 2], [0]])


class WrongInputs(unittest.TestCase):
    def setUp(self):
        self.sheet, self.threads = threaded("abcdef", [(2, 5), (0, 1), (1, 2), (3, 6)])
        self.threads.drop(2)
        self.sheet.cut(0, 0, 1)

    def told(self):
        return told_by_threads(self.threads, 5), told_by_sheet(self.sheet, 1)

    def refuse(self, error, *asks):
        for ask in asks:
            refused(self, error, ask, self.told)

    def test_what_is_no_stretch(self):
        for begin in beyond(0, 2):
            self.refuse(NoPlace, lambda: self.threads.tie(begin, 3))
        for end in beyond(2, 5):
            self.refuse(NoPlace, lambda: self.threads.tie(1, end))
        for value in beyond(0, 5):
            self.refuse(NoPlace, lambda: self.threads.tie(value, value))
        self.refuse(NoPlace, lambda: self.threads.tie(0, 0), lambda: self.threads.tie(5, 5),
                    lambda: self.threads.tie(5, 6), lambda: self.threads.tie(3, 1), lambda: self.threads.tie(-2, -1),
                    lambda: self.threads.tie(-1, 1), lambda: self.threads.tie(0, True),
                    lambda: self.threads.tie(False, 1))

    def test_no_place_where_no_sign_is_shown(self):
        for place in beyond(0, 4):
            self.refuse(NoPlace, lambda: self.threads.over(place))
        for sheet, threads in [threaded("", []), threaded("abc", [(0, 3)])]:
            if sheet.size():
                sheet.cut(0, 0, 3)
            for place in [0, 1, -1, None]:
                refused(self, NoPlace, lambda: threads.over(place))
            refused(self, NoPlace, lambda: threads.tie(0, 0))
            refused(self, NoPlace, lambda: threads.tie(0, 1))

    def test_the_number_of_none_that_is_there(self):
        for number in beyond(0, 3) + [2]:
            self.refuse(NoMark, lambda: self.threads.drop(number), lambda: self.threads.told(number))
        _, threads = threaded("ab", [])
        for number in [0, -1, None, True]:
            refused(self, NoMark, lambda: threads.drop(number))
            refused(self, NoMark, lambda: threads.told(number))

    def test_no_thread_is_dropped_twice(self):
        self.threads.drop(0)
        self.refuse(NoMark, lambda: self.threads.drop(0), lambda: self.threads.told(0))
        self.assertEqual(self.threads.numbers(), [1, 3])

    def test_what_was_refused_takes_no_number(self):
        self.refuse(NoPlace, lambda: self.threads.tie(2, 2), lambda: self.threads.tie(0, 6))
        self.refuse(NoMark, lambda: self.threads.drop(4))
        self.assertEqual(self.threads.tie(0, 5), 4)
