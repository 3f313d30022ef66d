"""Points 6 and 7: deeds taken back and done again in any order, and which was the last of a hand."""

import itertools
import random
import unittest

from stickmarks.errors import NoDeed
from stickmarks.sheet import Sheet
from tests.plain import told_by_sheet
from tests.test_sheet import agree, both, some_deed
from tests.wrong import refused

# What goes by the deeds and by which of them stand alone; last_gone goes by what happened as well.
BY_DEEDS = ["text", "size", "shown", "many", "letter", "sign_at", "place_of", "is_ahead", "deeds", "deed", "stands",
            "last_standing"]


def do(sheets, word, *told):
    """Do one thing on a sheet and on its plain twin."""
    for sheet in sheets:
        getattr(sheet, word)(*told)


def tangle():
    """A put that was cut and moved since, cuts that overlap by two hands, moves of what was moved."""
    sheets = both("abcdef", 3)
    do(sheets, "put", 0, 2, "xyz")
    do(sheets, "cut", 1, 1, 4)
    do(sheets, "move", 2, 1, 3, 5)
    do(sheets, "take_back", 1)
    do(sheets, "cut", 2, 2, 5)
    do(sheets, "do_again", 1)
    do(sheets, "move", 0, 0, 2, 3)
    do(sheets, "put", 1, 1, "w")
    return sheets


def by_deeds(sheet):
    told = told_by_sheet(sheet, 3)
    return {name: told[name] for name in BY_DEEDS}


def bring_to(sheets, standing, order):
    """Let just these deeds stand, by steps in this order."""
    for number in order:
        if sheets[0].stands(number) != (number in standing):
            do(sheets, "do_again" if number in standing else "take_back", number)


class TakingBack(unittest.TestCase):
    def test_a_put(self):
        sheet = Sheet("ab", 1)
        sheet.put(0, 1, "xy")
        self.assertIs(sheet.stands(0), True)
        self.assertIsNone(sheet.take_back(0))
        self.assertIs(sheet.stands(0), False)
        self.assertEqual((sheet.text(), sheet.many(), sheet.deeds()), ("ab", 4, 1))
        self.assertEqual(sheet.place_of(3), (1, False))
        self.assertIsNone(sheet.do_again(0))
        self.assertEqual((sheet.text(), sheet.stands(0), sheet.deed(0)), ("axyb", True, (0, "put", [2, 3])))

    def test_a_put_whose_signs_were_cut_and_moved_since(self):
        sheet = Sheet("ab", 1)
        sheet.put(0, 1, "xyz")
        sheet.cut(0, 2, 3)
        sheet.move(0, 1, 2, 4)
        self.assertEqual(sheet.text(), "azbx")
        sheet.take_back(0)
        self.assertEqual((sheet.text(), sheet.place_of(2)), ("ab", (2, False)))
        sheet.take_back(1)
        self.assertEqual(sheet.text(), "ab")
        sheet.do_again(0)
        self.assertEqual(sheet.text(), "ayzbx")
        sheet.take_back(2)
        self.assertEqual(sheet.text(), "axyzb")

    def test_a_sign_that_two_hands_cut_comes_back_with_the_last_of_the_cuts(self):
        for first, second in [(0, 1), (1, 0)]:
            sheet = Sheet("abcd", 2)
            sheet.cut(0, 0, 3)
            sheet.take_back(0)
            sheet.cut(1, 1, 4)
            sheet.do_again(0)
            self.assertEqual(sheet.text(), "")
            sheet.take_back(first)
            self.assertEqual(sheet.text(), ["a", "d"][first])
            self.assertEqual(sheet.place_of(1)[1], False)
            sheet.take_back(second)
            self.assertEqual(sheet.text(), "abcd")

    def test_a_move_of_signs_that_are_gone_by_then(self):
        sheet = Sheet("abcd", 2)
        sheet.move(0, 0, 2, 4)
        sheet.cut(1, 2, 4)
        self.assertEqual((sheet.text(), sheet.place_of(0), sheet.is_ahead(0, 2)), ("cd", (2, False), False))
        sheet.take_back(0)
        self.assertEqual((sheet.text(), sheet.place_of(0), sheet.is_ahead(0, 2)), ("cd", (0, False), True))
        sheet.take_back(1)
        self.assertEqual(sheet.text(), "abcd")
        sheet.do_again(0)
        self.assertEqual(sheet.text(), "cdab")

    def test_what_comes_behind_a_moved_sign_stays_when_the_move_is_taken_back(self):
        sheet = Sheet("abcd", 1)
        sheet.move(0, 0, 1, 4)
        sheet.put(0, 4, "x")
        sheet.take_back(0)
        self.assertEqual(sheet.text(), "abcdx")

    def test_no_deed_is_taken_back_or_done_again_twice(self):
        for word in ["put", "cut", "move"]:
            sheet = Sheet("abc", 1)
            getattr(sheet, word)(*{"put": (0, 1, "x"), "cut": (0, 1, 2), "move": (0, 1, 2, 0)}[word])
            for _ in range(2):
                refused(self, NoDeed, lambda: sheet.do_again(0), lambda: told_by_sheet(sheet, 1))
                sheet.take_back(0)
                refused(self, NoDeed, lambda: sheet.take_back(0), lambda: told_by_sheet(sheet, 1))
                self.assertEqual(sheet.text(), "abc")
                sheet.do_again(0)


class HoweverThatCameToBe(unittest.TestCase):
    def test_each_choice_of_standing_deeds_in_several_orders(self):
        count = tangle()[0].deeds()
        self.assertEqual(count, 6)
        orders = [list(range(count)), list(reversed(range(count))), [3, 0, 5, 2, 1, 4]]
        for choice in itertools.product([False, True], repeat=count):
            standing = {number for number in range(count) if choice[number]}
            ends = []
            for order in orders:
                sheets = tangle()
                bring_to(sheets, standing, order)
                agree(self, *sheets)
                ends.append(by_deeds(sheets[0]))
            self.assertEqual(ends[0], ends[1])
            self.assertEqual(ends[0], ends[2])

    def test_all_choices_one_after_the_other_on_one_sheet(self):
        sheets = tangle()
        fresh = {}
        for seed in range(2):
            choices = list(itertools.product([False, True], repeat=6))
            random.Random(seed).shuffle(choices)
            for choice in choices:
                bring_to(sheets, {number for number in range(6) if choice[number]}, range(6))
                told = by_deeds(sheets[0])
                self.assertEqual(fresh.setdefault(choice, told), told)

    def test_every_order_of_taking_all_back_and_doing_all_again(self):
        before = by_deeds(tangle()[0])
        sheet = tangle()[0]
        for order in itertools.permutations(range(6)):
            for number in order:
                sheet.take_back(number)
            self.assertEqual(sheet.text(), "abcdef")
            for number in order[3:] + order[:3]:
                sheet.do_again(number)
            self.assertEqual(sheet.text(), before["text"])
        self.assertEqual(by_deeds(sheet), before)

    def test_walks_of_deeds_taken_back_and_done_again_between_new_ones(self):
        for seed in range(40):
            chance = random.Random(seed)
            hands = 1 + seed % 3
            sheets = both(["abcd", "", "a"][seed % 3], hands)
            for _ in range(25):
                if sheets[0].deeds() and chance.random() < 0.5:
                    number = chance.randrange(sheets[0].deeds())
                    do(sheets, "take_back" if sheets[0].stands(number) else "do_again", number)
                else:
                    word, told = some_deed(chance, sheets[0], hands)
                    do(sheets, word, *told)
                agree(self, *sheets)


class LastOnes(unittest.TestCase):
    def sheet(self):
        """Deeds 0, 2 and 4 are of hand 0, 1 and 3 of hand 1; hand 2 has none."""
        sheet = Sheet("abc", 3)
        for number in range(5):
            sheet.put(number % 2, number, "x")
        return sheet

    def told(self, sheet):
        return ([sheet.last_standing(hand) for hand in range(3)], [sheet.last_gone(hand) for hand in range(3)])

    def test_a_hand_that_did_nothing(self):
        self.assertEqual(self.told(Sheet("", 3)), ([None] * 3, [None] * 3))

    def test_the_greatest_number_that_stands(self):
        sheet = self.sheet()
        for number, last in [(2, [4, 3, None]), (4, [0, 3, None]), (3, [0, 1, None]), (1, [0, None, None]),
                             (0, [None, None, None])]:
            sheet.take_back(number)
            self.assertEqual(self.told(sheet)[0], last)
        for number, last in [(0, [0, None, None]), (3, [0, 3, None]), (1, [0, 3, None]), (4, [4, 3, None])]:
            sheet.do_again(number)
            self.assertEqual(self.told(sheet)[0], last)

    def test_the_one_that_was_taken_back_last_whatever_its_number(self):
        sheet = self.sheet()
        for number, last in [(4, [4, None, None]), (1, [4, 1, None]), (0, [0, 1, None]), (2, [2, 1, None]),
                             (3, [2, 3, None])]:
            sheet.take_back(number)
            self.assertEqual(self.told(sheet)[1], last)
        for number, last in [(0, [2, 3, None]), (3, [2, 1, None]), (2, [4, 1, None]), (4, [None, 1, None]),
                             (1, [None, None, None])]:
            sheet.do_again(number)
            self.assertEqual(self.told(sheet)[1], last)

    def test_one_that_was_taken_back_done_again_and_taken_back_once_more(self):
        sheet = self.sheet()
        sheet.take_back(0)
        sheet.take_back(4)
        self.assertEqual(sheet.last_gone(0), 4)
        sheet.do_again(0)
        self.assertEqual((sheet.last_gone(0), sheet.last_standing(0)), (4, 2))
        sheet.take_back(0)
        self.assertEqual((sheet.last_gone(0), sheet.last_standing(0)), (0, 2))
        sheet.do_again(4)
        self.assertEqual((sheet.last_gone(0), sheet.last_standing(0)), (0, 4))
        sheet.take_back(4)
        self.assertEqual((sheet.last_gone(0), sheet.last_standing(0)), (4, 2))

    def test_a_new_deed_leaves_what_redo_would_do_again(self):
        sheet = self.sheet()
        sheet.take_back(2)
        sheet.cut(0, 0, 1)
        self.assertEqual((sheet.last_standing(0), sheet.last_gone(0)), (5, 2))
