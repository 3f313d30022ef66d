"""Point 7, and stickmarks/undoing.py: the undo and the redo of a hand."""

import random
import unittest

from stickmarks.errors import NoDeed, NoHand
from stickmarks.sheet import Sheet
from stickmarks.undoing import redo, undo
from tests.plain import told_by_sheet
from tests.test_sheet import agree, both, some_deed
from tests.wrong import beyond, refused


def three_hands():
    """Deeds 0, 3 and 4 are of hand 0, 1 and 2 of hand 1; hand 2 has none."""
    sheet = Sheet("abcd", 3)
    sheet.put(0, 4, "x")
    sheet.cut(1, 0, 1)
    sheet.move(1, 0, 1, 4)
    sheet.put(0, 0, "y")
    sheet.cut(0, 1, 2)
    return sheet


def standing(sheet):
    return [sheet.stands(number) for number in range(sheet.deeds())]


class Undo(unittest.TestCase):
    def test_a_put_a_cut_and_a_move(self):
        for word, told, text in [("put", (0, 1, "xy"), "axybc"), ("cut", (0, 0, 2), "c"),
                                 ("move", (0, 0, 1, 3), "bca")]:
            sheet = Sheet("abc", 1)
            getattr(sheet, word)(*told)
            self.assertEqual(sheet.text(), text)
            number = undo(sheet, 0)
            self.assertEqual((number, type(number)), (0, int))
            self.assertEqual((sheet.text(), sheet.stands(0), sheet.deeds()), ("abc", False, 1))
            number = redo(sheet, 0)
            self.assertEqual((number, type(number)), (0, int))
            self.assertEqual((sheet.text(), sheet.stands(0), sheet.deeds()), (text, True, 1))

    def test_a_hand_takes_back_its_own_deeds_from_the_greatest_number_down(self):
        sheet = three_hands()
        self.assertEqual(sheet.text(), "ydxb")
        for hand, number, text in [(0, 4, "ycdxb"), (1, 2, "ybcdx"), (0, 3, "bcdx"), (1, 1, "abcdx"),
                                   (0, 0, "abcd")]:
            self.assertEqual(undo(sheet, hand), number)
            self.assertEqual(sheet.text(), text)
            self.assertIs(sheet.stands(number), False)

    def test_the_deeds_of_others_stay_as_they_are(self):
        for hand, own in [(0, [0, 3, 4]), (1, [1, 2])]:
            sheet = three_hands()
            other = 1 - hand
            undo(sheet, other)
            before = standing(sheet)
            lasts = sheet.last_standing(other), sheet.last_gone(other)
            for _ in own:
                undo(sheet, hand)
                redo(sheet, hand)
                undo(sheet, hand)
            self.assertEqual([number for number in range(5) if standing(sheet)[number] != before[number]], own)
            self.assertEqual((sheet.last_standing(other), sheet.last_gone(other)), lasts)

    def test_it_goes_by_what_stands_and_not_by_what_was_done_last(self):
        sheet = three_hands()
        sheet.take_back(4)
        sheet.take_back(0)
        sheet.do_again(0)
        self.assertEqual(undo(sheet, 0), 3)
        sheet.do_again(4)
        self.assertEqual(undo(sheet, 0), 4)
        self.assertEqual(undo(sheet, 0), 0)
        refused(self, NoDeed, lambda: undo(sheet, 0), lambda: told_by_sheet(sheet, 3))

    def test_a_new_deed_is_the_next_one(self):
        sheet = three_hands()
        self.assertEqual(undo(sheet, 0), 4)
        self.assertEqual(sheet.put(0, 0, "z"), 5)
        self.assertEqual([undo(sheet, 0), undo(sheet, 0), undo(sheet, 0)], [5, 3, 0])


class Redo(unittest.TestCase):
    def test_what_was_undone_last_comes_first(self):
        sheet = three_hands()
        self.assertEqual([undo(sheet, hand) for hand in [0, 1, 0, 1, 0]], [4, 2, 3, 1, 0])
        self.assertEqual([redo(sheet, hand) for hand in [1, 1, 0, 0, 0]], [1, 2, 0, 3, 4])
        self.assertEqual(sheet.text(), "ydxb")

    def test_also_what_was_taken_back_by_its_number(self):
        sheet = three_hands()
        sheet.take_back(3)
        self.assertEqual(undo(sheet, 0), 4)
        sheet.take_back(0)
        self.assertEqual([redo(sheet, 0), redo(sheet, 0), redo(sheet, 0)], [0, 4, 3])

    def test_not_what_was_done_again_by_its_number(self):
        sheet = three_hands()
        self.assertEqual([undo(sheet, 0), undo(sheet, 0), undo(sheet, 0)], [4, 3, 0])
        sheet.do_again(0)
        self.assertEqual(redo(sheet, 0), 3)
        sheet.do_again(4)
        refused(self, NoDeed, lambda: redo(sheet, 0), lambda: told_by_sheet(sheet, 3))

    def test_what_was_taken_back_once_more_is_the_last_one(self):
        sheet = three_hands()
        sheet.take_back(0)
        sheet.take_back(4)
        sheet.do_again(0)
        sheet.take_back(0)
        self.assertEqual([redo(sheet, 0), redo(sheet, 0)], [0, 4])
        sheet.take_back(4)
        sheet.take_back(0)
        sheet.do_again(4)
        sheet.take_back(4)
        self.assertEqual([redo(sheet, 0), redo(sheet, 0)], [4, 0])

    def test_it_outlasts_new_deeds_of_its_hand(self):
        sheet = three_hands()
        self.assertEqual(undo(sheet, 0), 4)
        sheet.put(0, 0, "z")
        sheet.cut(0, 0, 1)
        self.assertEqual(redo(sheet, 0), 4)
        self.assertEqual(standing(sheet), [True] * 7)


class AgainstTheWords(unittest.TestCase):
    def lasts(self, plain):
        """What each word may be done with: the hands for undo and redo, the numbers for the other two."""
        numbers = range(len(plain.done))
        return {
            "undo": [hand for hand in range(plain.hands) if plain.last_standing(hand) is not None],
            "redo": [hand for hand in range(plain.hands) if plain.last_gone(hand) is not None],
            "take_back": [number for number in numbers if number in plain.standing],
            "do_again": [number for number in numbers if number not in plain.standing],
        }

    def test_walks_of_several_hands_beside_numbers_taken_back_and_done_again(self):
        ways = {"undo": undo, "redo": redo, "take_back": Sheet.take_back, "do_again": Sheet.do_again}
        for seed in range(30):
            chance = random.Random(seed)
            hands = 1 + seed % 4
            sheet, plain = both(["abcd", ""][seed % 2], hands)
            for _ in range(30):
                word, lasts = chance.choice(list(ways)), self.lasts(plain)
                if chance.random() < 0.3 or not lasts[word]:
                    deed, told = some_deed(chance, sheet, hands)
                    self.assertEqual(getattr(sheet, deed)(*told), getattr(plain, deed)(*told))
                else:
                    at = chance.choice(lasts[word])
                    self.assertEqual(ways[word](sheet, at), getattr(plain, word)(at))
                agree(self, sheet, plain)
                for hand in range(hands):
                    for word in ["undo", "redo"]:
                        if hand not in self.lasts(plain)[word]:
                            refused(self, NoDeed, lambda: ways[word](sheet, hand))


class WrongInputs(unittest.TestCase):
    def test_what_is_no_hand(self):
        sheet = three_hands()
        sheet.take_back(1)
        sheet.take_back(3)
        for hand in beyond(0, 2):
            for word in [undo, redo]:
                refused(self, NoHand, lambda: word(sheet, hand), lambda: told_by_sheet(sheet, 3))

    def test_no_hand_comes_ahead_of_no_deed(self):
        sheet = Sheet("abc", 1)
        for hand in beyond(0, 0):
            for word in [undo, redo]:
                refused(self, NoHand, lambda: word(sheet, hand), lambda: told_by_sheet(sheet, 1))

    def test_no_deed_where_there_is_none(self):
        sheet = three_hands()
        for word in [undo, redo]:
            refused(self, NoDeed, lambda: word(sheet, 2), lambda: told_by_sheet(sheet, 3))
        for hand in [0, 1]:
            refused(self, NoDeed, lambda: redo(sheet, hand), lambda: told_by_sheet(sheet, 3))
        for number in range(5):
            sheet.take_back(number)
        for hand in [0, 1]:
            refused(self, NoDeed, lambda: undo(sheet, hand), lambda: told_by_sheet(sheet, 3))

    def test_what_was_refused_leaves_no_trace(self):
        sheet = three_hands()
        sheet.take_back(3)
        for hand, word, error in [(1, redo, NoDeed), (2, undo, NoDeed), (True, undo, NoHand), (None, redo, NoHand)]:
            refused(self, error, lambda: word(sheet, hand), lambda: told_by_sheet(sheet, 3))
        self.assertEqual((undo(sheet, 0), redo(sheet, 0), redo(sheet, 0)), (4, 4, 3))
