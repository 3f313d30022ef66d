"""Undo and redo of one hand; what the other hands did stays as it is."""

from stickmarks.errors import NoDeed


def undo(sheet, hand):
    """Take back a hand's deed of the greatest number that stands; return its number."""
    number = sheet.last_standing(hand)
    if number is None:
        raise NoDeed("no deed of this hand stands")
    sheet.take_back(number)
    return number


def redo(sheet, hand):
    """Do again the one of a hand's deeds that was taken back last; return its number."""
    number = sheet.last_gone(hand)
    if number is None:
        raise NoDeed("no deed of this hand was taken back")
    sheet.do_again(number)
    return number
