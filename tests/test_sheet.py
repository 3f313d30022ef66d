"""Points 3 to 5, and stickmarks/sheet.py: signs, where they are shown, and deeds as they are done."""

import random
import unittest

from stickmarks.errors import BadText, NoDeed, NoHand, NoPlace, NoSeat
from stickmarks.sheet import Sheet
from tests.plain import PlainSheet, kinds, told_by_sheet
from tests.wrong import NO_TEXTS, beyond, refused


def agree(case, sheet, plain):
    """Check that a sheet tells just what its plain twin tells, kinds of values and all."""
    told, expected = told_by_sheet(sheet, plain.hands), plain.told()
    case.assertEqual(told, expected)
    case.assertEqual(kinds(told), kinds(expected))


def both(text, hands):
    return Sheet(text, hands), PlainSheet(text, hands)


def stretches(size):
    return [(begin, end) for end in range(1, size + 1) for begin in range(end)]


def moves(size):
    return [(begin, end, place) for begin, end in stretches(size)
            for place in range(size + 1) if not begin < place < end]


def some_deed(chance, sheet, hands):
    """By chance a deed that the sheet lets: the name of the method and its arguments."""
    hand, size = chance.randrange(hands), sheet.size()
    word = chance.choice(["put", "cut", "move", "move"]) if size else "put"
    if word == "put":
        text = "".join(chance.choice("abc xyz~\n") for _ in range(chance.choice([1, 1, 2, 3])))
        return "put", (hand, chance.choice([0, size, chance.randrange(size + 1)]), text)
    begin = chance.randrange(size)
    end = min(size, begin + chance.choice([1, 1, 2, 3]))
    if word == "cut":
        return "cut", (hand, begin, end)
    places = [place for place in range(size + 1) if not begin < place < end]
    return "move", (hand, begin, end, chance.choice([0, begin, end, size, chance.choice(places)]))


class NewSheets(unittest.TestCase):
    def test_the_first_text_is_shown(self):
        sheet = Sheet("hello", 2)
        self.assertEqual((sheet.text(), sheet.size(), sheet.many(), sheet.deeds()), ("hello", 5, 5, 0))
        self.assertEqual(sheet.shown(), [0, 1, 2, 3, 4])
        self.assertEqual([sheet.letter(sign) for sign in range(5)], list("hello"))
        agree(self, *both("hello", 2))

    def test_an_empty_first_text_is_let(self):
        sheet = Sheet("", 1)
        self.assertEqual((sheet.text(), sheet.size(), sheet.many(), sheet.shown()), ("", 0, 0, []))
        agree(self, *both("", 1))

    def test_every_letter_that_is_named(self):
        letters = "".join(chr(code) for code in range(32, 127) if code != 37) + "\n"
        self.assertEqual(len(letters), 95)
        sheet = Sheet(letters, 1)
        self.assertEqual(sheet.text(), letters)
        sheet.put(0, 0, letters)
        self.assertEqual(sheet.text(), letters + letters)
        self.assertEqual(Sheet("\n", 1).text(), "\n")

    def test_one_to_nine_hands(self):
        for hands in range(1, 10):
            sheet = Sheet("ab", hands)
            for hand in range(hands):
                self.assertIsNone(sheet.last_standing(hand))
                self.assertIsNone(sheet.last_gone(hand))
                self.assertEqual(sheet.put(hand, 0, "c"), hand)
            for hand in beyond(0, hands - 1):
                refused(self, NoHand, lambda: sheet.put(hand, 0, "c"), lambda: told_by_sheet(sheet, hands))

    def test_what_is_no_text(self):
        for text in NO_TEXTS:
            for hands in [1, 9, 0, 10, None]:
                refused(self, BadText, lambda: Sheet(text, hands))

    def test_another_number_of_hands(self):
        for hands in beyond(1, 9):
            for text in ["", "ab"]:
                refused(self, NoHand, lambda: Sheet(text, hands))

    def test_two_sheets_have_nothing_in_common(self):
        one, other = Sheet("abc", 2), Sheet("abc", 2)
        one.cut(0, 0, 1)
        one.move(1, 0, 1, 2)
        one.put(0, 0, "x")
        one.take_back(0)
        self.assertEqual(told_by_sheet(other, 2), PlainSheet("abc", 2).told())


class Puts(unittest.TestCase):
    def test_at_every_place_with_one_letter_and_several(self):
        for first in ["", "p", "pqr"]:
            for place in range(len(first) + 1):
                for text in ["x", "xy", "x \n~"]:
                    sheet, plain = both(first, 3)
                    self.assertEqual(sheet.put(1, place, text), plain.put(1, place, text))
                    self.assertEqual(sheet.text(), first[:place] + text + first[place:])
                    self.assertEqual(sheet.deed(0), (1, "put", list(range(len(first), len(first + text)))))
                    agree(self, sheet, plain)

    def test_signs_are_numbered_as_they_come(self):
        sheet = Sheet("ab", 1)
        sheet.put(0, 1, "xy")
        sheet.put(0, 0, "z")
        self.assertEqual((sheet.text(), sheet.shown(), sheet.many()), ("zaxyb", [4, 0, 2, 3, 1], 5))
        self.assertEqual("".join(sheet.letter(sign) for sign in range(5)), "abxyz")

    def test_two_puts_at_one_place_stand_the_later_one_first(self):
        sheet = Sheet("ab", 2)
        sheet.put(0, 1, "xx")
        sheet.put(1, 1, "yy")
        self.assertEqual(sheet.text(), "ayyxxb")

    def test_a_put_goes_right_behind_the_shown_sign_also_ahead_of_gone_ones(self):
        sheet = Sheet("abc", 1)
        sheet.cut(0, 1, 2)
        sheet.put(0, 1, "x")
        sheet.take_back(0)
        self.assertEqual(sheet.text(), "axbc")

    def test_a_put_at_place_0_goes_to_the_very_beginning_also_ahead_of_gone_ones(self):
        sheet = Sheet("abc", 1)
        sheet.cut(0, 0, 2)
        sheet.put(0, 0, "x")
        sheet.put(0, 0, "y")
        sheet.take_back(0)
        self.assertEqual(sheet.text(), "yxabc")


class Cuts(unittest.TestCase):
    def test_every_stretch(self):
        for begin, end in stretches(4):
            sheet, plain = both("pqrs", 2)
            self.assertEqual(sheet.cut(1, begin, end), plain.cut(1, begin, end))
            self.assertEqual(sheet.text(), "pqrs"[:begin] + "pqrs"[end:])
            self.assertEqual(sheet.deed(0), (1, "cut", list(range(begin, end))))
            agree(self, sheet, plain)

    def test_a_sign_that_is_gone_is_told_by_the_place_where_it_went(self):
        sheet = Sheet("abcd", 1)
        sheet.cut(0, 1, 3)
        self.assertEqual([sheet.place_of(sign) for sign in range(4)], [(0, True), (1, False), (1, False), (1, True)])
        self.assertIs(sheet.is_ahead(1, 2), True)
        self.assertIs(sheet.is_ahead(2, 1), False)
        self.assertEqual((sheet.many(), sheet.letter(2), sheet.shown()), (4, "c", [0, 3]))

    def test_a_cut_takes_only_what_is_shown(self):
        sheet = Sheet("abcd", 1)
        sheet.cut(0, 1, 2)
        sheet.cut(0, 0, 2)
        self.assertEqual(sheet.deed(1), (0, "cut", [0, 2]))
        sheet.take_back(1)
        self.assertEqual(sheet.text(), "acd")

    def test_all_is_cut(self):
        sheet = Sheet("abc", 1)
        sheet.cut(0, 0, 3)
        self.assertEqual((sheet.text(), sheet.size(), sheet.shown()), ("", 0, []))
        self.assertEqual([sheet.place_of(sign) for sign in range(3)], [(0, False)] * 3)


class Moves(unittest.TestCase):
    def test_every_stretch_to_every_place(self):
        for size in [1, 2, 5]:
            first = "pqrst"[:size]
            for begin, end, place in moves(size):
                sheet, plain = both(first, 2)
                self.assertEqual(sheet.move(1, begin, end, place), plain.move(1, begin, end, place))
                rest = place if place <= begin else place - (end - begin)
                left = first[:begin] + first[end:]
                self.assertEqual(sheet.text(), left[:rest] + first[begin:end] + left[rest:])
                self.assertEqual(sheet.deed(0), (1, "move", list(range(begin, end))))
                self.assertEqual(sheet.many(), size)
                agree(self, sheet, plain)

    def test_each_two_deeds_of_each_kind(self):
        deeds = [("put", (0, place, "xy")) for place in range(4)]
        deeds += [("cut", (0, begin, end)) for begin, end in stretches(3)]
        deeds += [("move", (0, begin, end, place)) for begin, end, place in moves(3)]
        for word, told in deeds:
            for other, more in deeds:
                sheet, plain = both("abc", 1)
                getattr(sheet, word)(*told)
                getattr(plain, word)(*told)
                if max(place for place in more if isinstance(place, int)) <= sheet.size():
                    getattr(sheet, other)(*more)
                    getattr(plain, other)(*more)
                agree(self, sheet, plain)

    def test_a_sign_that_was_moved_several_times_sits_by_its_last_move_that_stands(self):
        sheet = Sheet("abcd", 3)
        for hand, place, text in [(0, 2, "bacd"), (1, 4, "bcda"), (2, 0, "abcd")]:
            at = sheet.text().index("a")
            sheet.move(hand, at, at + 1, place)
            self.assertEqual(sheet.text(), text)
        for number, text in [(1, "abcd"), (2, "bacd"), (0, "abcd")]:
            sheet.take_back(number)
            self.assertEqual(sheet.text(), text)
        for number, text in [(1, "bcda"), (0, "bcda"), (2, "abcd")]:
            sheet.do_again(number)
            self.assertEqual(sheet.text(), text)
        self.assertEqual(sheet.many(), 4)

    def test_a_move_to_its_own_begin_or_end_is_a_move_all_the_same(self):
        for place in [1, 3]:
            sheet = Sheet("abcd", 1)
            self.assertEqual(sheet.move(0, 1, 3, place), 0)
            self.assertEqual((sheet.text(), sheet.deed(0)), ("abcd", (0, "move", [1, 2])))
            sheet.put(0, 1, "x")
            sheet.put(0, 4, "y")
            self.assertEqual(sheet.text(), "axbcyd")

    def test_a_move_to_its_own_begin_leaves_the_gone_ones_behind(self):
        sheet = Sheet("abcd", 1)
        sheet.cut(0, 1, 2)
        sheet.move(0, 1, 2, 1)
        sheet.take_back(0)
        self.assertEqual(sheet.text(), "acbd")

    def test_gone_signs_between_do_not_move_along(self):
        sheet = Sheet("abcd", 1)
        sheet.cut(0, 1, 2)
        sheet.move(0, 0, 2, 3)
        self.assertEqual((sheet.text(), sheet.deed(1)), ("dac", (0, "move", [0, 2])))
        sheet.take_back(0)
        self.assertEqual(sheet.text(), "bdac")


class AgainstTheWords(unittest.TestCase):
    def walk(self, seed, text, hands, count):
        """Deeds by chance, each against the plain twin."""
        chance = random.Random(seed)
        sheet, plain = both(text, hands)
        for _ in range(count):
            word, told = some_deed(chance, sheet, hands)
            self.assertEqual(getattr(sheet, word)(*told), getattr(plain, word)(*told))
            agree(self, sheet, plain)

    def test_small_sheets(self):
        for seed in range(25):
            self.walk(seed, ["", "a", "abcdef"][seed % 3], 1 + seed % 4, 20)

    def test_a_sheet_of_more_than_a_hundred_signs(self):
        self.walk(7, "the quick brown fox\n" * 6, 9, 12)


class Own(unittest.TestCase):
    def test_what_was_told_is_the_askers_own(self):
        sheet = Sheet("abcd", 2)
        sheet.put(0, 1, "xy")
        sheet.cut(1, 0, 2)
        sheet.move(0, 0, 2, 4)
        before = told_by_sheet(sheet, 2)
        for told in [sheet.shown()] + [sheet.deed(number)[2] for number in range(3)]:
            told.reverse()
            told.append(99)
            del told[:2]
        self.assertEqual(told_by_sheet(sheet, 2), before)
        for number in [0, 1, 2]:
            sheet.take_back(number)
        for number in [2, 1, 0]:
            sheet.do_again(number)
        self.assertEqual(sheet.text(), before["text"])
        self.assertEqual(sheet.place_of(1), before["place_of"][1])

    def test_what_was_told_is_not_changed_by_later_deeds(self):
        sheet, plain = both("abcd", 1)
        sheet.cut(0, 1, 2)
        plain.cut(0, 1, 2)
        told, expected = told_by_sheet(sheet, 1), plain.told()
        sheet.put(0, 0, "x")
        sheet.move(0, 0, 2, 3)
        sheet.take_back(0)
        self.assertEqual(told, expected)


class WrongInputs(unittest.TestCase):
    def setUp(self):
        self.sheet = Sheet("abcd", 2)
        self.sheet.put(0, 1, "xy")
        self.sheet.cut(1, 0, 2)
        self.sheet.move(0, 0, 2, 4)
        self.sheet.take_back(1)

    def told(self):
        return told_by_sheet(self.sheet, 2)

    def test_the_sheet_is_what_the_tests_below_take_it_for(self):
        self.assertEqual((self.sheet.text(), self.sheet.size(), self.sheet.many()), ("axcdyb", 6, 6))

    def refuse(self, error, *asks):
        for ask in asks:
            refused(self, error, ask, self.told)

    def test_what_is_no_hand(self):
        sheet = self.sheet
        for hand in beyond(0, 1):
            self.refuse(NoHand, lambda: sheet.put(hand, 0, "a"), lambda: sheet.cut(hand, 0, 1),
                        lambda: sheet.move(hand, 0, 1, 2), lambda: sheet.last_standing(hand),
                        lambda: sheet.last_gone(hand))

    def test_the_hand_comes_first(self):
        sheet = self.sheet
        for hand in [2, -1, True, None]:
            self.refuse(NoHand, lambda: sheet.put(hand, 7, ""), lambda: sheet.put(hand, 0, None),
                        lambda: sheet.cut(hand, 3, 3), lambda: sheet.cut(hand, None, "x"),
                        lambda: sheet.move(hand, 5, 2, 9), lambda: sheet.move(hand, 0, 3, 1))

    def test_what_is_no_place_of_a_put(self):
        for place in beyond(0, 6):
            self.refuse(NoPlace, lambda: self.sheet.put(0, place, "a"))

    def test_the_place_of_a_put_comes_ahead_of_its_text(self):
        for place in beyond(0, 6):
            self.refuse(NoPlace, lambda: self.sheet.put(0, place, ""), lambda: self.sheet.put(0, place, 5))

    def test_what_is_no_text_of_a_put(self):
        for text in [""] + NO_TEXTS:
            self.refuse(BadText, lambda: self.sheet.put(0, 6, text), lambda: self.sheet.put(1, 0, text))

    def test_what_is_no_stretch(self):
        sheet = self.sheet
        for begin in beyond(0, 3):
            self.refuse(NoPlace, lambda: sheet.cut(0, begin, 4), lambda: sheet.move(0, begin, 4, 6),
                        lambda: sheet.move(0, begin, 4, 0))
        for end in beyond(3, 6):
            self.refuse(NoPlace, lambda: sheet.cut(0, 2, end), lambda: sheet.move(0, 2, end, 0),
                        lambda: sheet.move(0, 2, end, 6))
        self.refuse(NoPlace, lambda: sheet.cut(0, 0, 0), lambda: sheet.cut(0, 6, 6), lambda: sheet.cut(0, 6, 7),
                    lambda: sheet.cut(0, 3, 1), lambda: sheet.cut(0, -2, -1), lambda: sheet.cut(0, -1, 1),
                    lambda: sheet.move(0, 6, 6, 0), lambda: sheet.move(0, -2, -1, 0))

    def test_what_is_no_place_of_a_move(self):
        for place in beyond(0, 6) + [2, 3]:
            self.refuse(NoPlace, lambda: self.sheet.move(0, 1, 4, place))
        for place in [0, 1, 4, 5, 6]:
            self.sheet.move(0, 1, 4, place)

    def test_no_stretch_and_no_sign_where_none_is_shown(self):
        sheet = Sheet("", 1)
        for ask in [lambda: sheet.cut(0, 0, 0), lambda: sheet.cut(0, 0, 1), lambda: sheet.move(0, 0, 1, 0),
                    lambda: sheet.sign_at(0), lambda: sheet.put(0, 1, "a")]:
            refused(self, NoPlace, ask, lambda: told_by_sheet(sheet, 1))
        refused(self, NoSeat, lambda: sheet.letter(0))
        refused(self, NoDeed, lambda: sheet.deed(0))

    def test_places_go_by_what_is_shown_and_not_by_what_came(self):
        sheet = Sheet("abcd", 1)
        sheet.cut(0, 0, 3)
        for ask in [lambda: sheet.put(0, 2, "x"), lambda: sheet.cut(0, 0, 2), lambda: sheet.move(0, 0, 1, 2),
                    lambda: sheet.sign_at(1)]:
            refused(self, NoPlace, ask, lambda: told_by_sheet(sheet, 1))

    def test_no_sign_is_shown_at_what_is_no_place(self):
        for place in beyond(0, 5):
            self.refuse(NoPlace, lambda: self.sheet.sign_at(place))

    def test_what_is_no_sign(self):
        sheet = self.sheet
        for sign in beyond(0, 5):
            self.refuse(NoSeat, lambda: sheet.letter(sign), lambda: sheet.place_of(sign),
                        lambda: sheet.is_ahead(sign, 0), lambda: sheet.is_ahead(0, sign),
                        lambda: sheet.is_ahead(sign, sign))

    def test_what_is_no_deed(self):
        sheet = self.sheet
        for number in beyond(0, 2):
            self.refuse(NoDeed, lambda: sheet.deed(number), lambda: sheet.stands(number),
                        lambda: sheet.take_back(number), lambda: sheet.do_again(number))

    def test_a_refused_deed_takes_no_number(self):
        sheet = self.sheet
        self.refuse(BadText, lambda: sheet.put(0, 0, ""))
        self.refuse(NoPlace, lambda: sheet.cut(0, 0, 9), lambda: sheet.move(0, 0, 3, 2))
        self.assertEqual(sheet.put(0, 0, "z"), 3)
        self.assertEqual(sheet.deed(3), (0, "put", [6]))
