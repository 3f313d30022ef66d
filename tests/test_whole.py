"""Point 1, over the whole program: everything at once, by chance, against the plain twins."""

import random
import unittest

from stickmarks.errors import StickError
from stickmarks.marks import Marks
from stickmarks.sheet import Sheet
from stickmarks.threads import Threads
from stickmarks.undoing import redo, undo
from tests.plain import PlainMarks, PlainSheet, PlainThreads, kinds, told_by_marks, told_by_sheet, told_by_threads
from tests.test_sheet import some_deed
from tests.wrong import beyond

SHEETS_WORDS = {"put": Sheet.put, "cut": Sheet.cut, "move": Sheet.move, "take_back": Sheet.take_back,
                "do_again": Sheet.do_again, "undo": undo, "redo": redo}
NO_THINGS = [-1, 99, 10 ** 30, True, None, "a", [0], {}, 0.5]


class Walk:
    """A sheet, rows of marks and of threads that are made on the way, and the plain twins of all."""

    def __init__(self, case, seed):
        self.case = case
        self.chance = random.Random(seed)
        self.hands = 1 + seed % 3
        text = ["abcdef", "", "ab"][seed % 3]
        self.sheet, self.plain = Sheet(text, self.hands), PlainSheet(text, self.hands)
        self.marks, self.threads = [], []

    def both(self, word, *told):
        """Do one thing on the sheet and on its twin; both tell the same."""
        self.case.assertEqual(SHEETS_WORDS[word](self.sheet, *told), getattr(self.plain, word)(*told))

    def change(self):
        """Do a deed, or take one back or do it again, by its number or by its hand."""
        chance, numbers = self.chance, range(len(self.plain.done))
        hand = chance.randrange(self.hands)
        word = chance.choice(["deed", "deed", "number", "number", "undo", "redo"])
        if word == "number" and numbers:
            number = chance.choice(numbers)
            self.both("take_back" if number in self.plain.standing else "do_again", number)
        elif word == "undo" and self.plain.last_standing(hand) is not None:
            self.both("undo", hand)
        elif word == "redo" and self.plain.last_gone(hand) is not None:
            self.both("redo", hand)
        else:
            word, told = some_deed(chance, self.sheet, self.hands)
            self.both(word, *told)

    def set(self):
        """Make a row, stick a mark, tie a thread, or drop one."""
        chance, size = self.chance, len(self.plain.shown())
        if chance.random() < 0.15:
            self.marks.append((Marks(self.sheet), PlainMarks(self.plain)))
            self.threads.append((Threads(self.sheet), PlainThreads(self.plain)))
        if self.marks and size:
            row, twin = chance.choice(self.marks)
            told = chance.randrange(self.hands), chance.randrange(size)
            self.case.assertEqual(row.stick(*told), twin.stick(*told))
            row, twin = chance.choice(self.threads)
            begin = chance.randrange(size)
            told = begin, chance.randrange(begin, size) + 1
            self.case.assertEqual(row.tie(*told), twin.tie(*told))
        if self.marks and chance.random() < 0.4:
            row, twin = chance.choice(self.marks + self.threads)
            if row.numbers():
                number = chance.choice(row.numbers())
                self.case.assertIsNone(row.drop(number))
                twin.drop(number)

    def told(self):
        return [told_by_sheet(self.sheet, self.hands), [told_by_marks(row, self.hands) for row, _ in self.marks],
                [told_by_threads(row, self.sheet.size()) for row, _ in self.threads]]

    def agree(self):
        """Check that all tell what their twins tell, kinds of values and all."""
        told = self.told()
        expected = [self.plain.told(), [twin.told() for _, twin in self.marks],
                    [twin.told() for _, twin in self.threads]]
        self.case.assertEqual(told, expected)
        self.case.assertEqual(kinds(told), kinds(expected))
        return told, expected


def spoil(told):
    """Change each list that was told, however deep it lies in what was."""
    if isinstance(told, dict):
        told = list(told.values())
    if isinstance(told, (list, tuple)):
        for item in told:
            spoil(item)
    if isinstance(told, list):
        told.reverse()
        told.append(99)
        del told[0]


class Walks(unittest.TestCase):
    def test_everything_beside_everything(self):
        for seed in range(40):
            walk = Walk(self, seed)
            for _ in range(25):
                walk.change()
                walk.set()
                walk.agree()

    def test_what_was_told_stays_and_may_be_spoiled(self):
        for seed in range(10):
            walk = Walk(self, seed)
            kept = []
            for step in range(20):
                walk.change()
                walk.set()
                kept.append(walk.agree())
                if step % 3 == 0:
                    spoil(walk.told())
            for told, expected in kept:
                self.assertEqual(told, expected)

    def test_what_is_refused_changes_nothing(self):
        for seed in range(6):
            walk = Walk(self, seed)
            for _ in range(30):
                walk.change()
                walk.set()
            marks, threads = walk.marks[0][0], walk.threads[0][0]
            before = walk.told()
            for wrong in NO_THINGS:
                for ask in self.asks(walk.sheet, marks, threads, wrong):
                    with self.assertRaises(StickError):
                        ask()
                self.assertEqual(walk.told(), before)
            walk.change()
            walk.set()
            walk.agree()

    def asks(self, sheet, marks, threads, wrong):
        """Each method that refuses a thing, asked for a wrong one."""
        one = [sheet.letter, sheet.sign_at, sheet.place_of, sheet.deed, sheet.stands, sheet.take_back,
               sheet.do_again, sheet.last_standing, sheet.last_gone, marks.drop, marks.sign, marks.told, marks.of,
               threads.drop, threads.told, threads.over]
        asks = [lambda ask=ask: ask(wrong) for ask in one]
        return asks + [
            lambda: sheet.is_ahead(wrong, wrong), lambda: sheet.put(0, wrong, "a"), lambda: sheet.put(wrong, 0, "a"),
            lambda: sheet.cut(0, 0, wrong), lambda: sheet.cut(0, wrong, 1), lambda: sheet.cut(wrong, 0, 1),
            lambda: sheet.move(0, 0, wrong, 0), lambda: sheet.move(0, wrong, 1, 0),
            lambda: sheet.move(wrong, 0, 1, 0), lambda: sheet.move(0, 0, 1, wrong),
            lambda: undo(sheet, wrong), lambda: redo(sheet, wrong),
            lambda: marks.stick(wrong, 0), lambda: marks.stick(0, wrong), lambda: threads.tie(0, wrong),
            lambda: threads.tie(wrong, 1)]


class WhatIsHandedIn(unittest.TestCase):
    def test_what_is_refused_is_not_changed_either(self):
        sheet = Sheet("abc", 2)
        marks, threads = Marks(sheet), Threads(sheet)
        for make, size in [(lambda: [0, 1], 2), (lambda: {0: 1}, 1), (lambda: {"a"}, 1)]:
            wrong = make()
            for ask in [lambda: sheet.put(0, 0, wrong), lambda: sheet.put(wrong, 0, "a"),
                        lambda: sheet.cut(0, wrong, wrong), lambda: marks.stick(0, wrong), lambda: marks.told(wrong),
                        lambda: threads.tie(wrong, wrong), lambda: threads.over(wrong), lambda: undo(sheet, wrong),
                        lambda: Sheet(wrong, 1), lambda: Sheet("", wrong)]:
                with self.assertRaises(StickError):
                    ask()
            self.assertEqual((wrong, len(wrong)), (make(), size))

    def test_true_and_false_are_no_numbers_also_where_one_and_nought_would_do(self):
        sheet = Sheet("abc", 2)
        marks, threads = Marks(sheet), Threads(sheet)
        for place in [0, 1]:
            sheet.put(place, 0, "x")
            marks.stick(place, place)
            threads.tie(place, 2)
        for wrong in beyond(0, 1):
            for ask in [marks.told, marks.of, threads.told, sheet.stands, sheet.last_standing]:
                with self.assertRaises(StickError):
                    ask(wrong)
