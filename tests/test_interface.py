"""The interface as the document lists it: files, names and arguments."""

import importlib
import inspect
import unittest

CLASSES = {
    ("seats", "Row"): {
        "__init__": [], "add": ["behind"], "take": ["seat", "is_taken"], "is_taken": ["seat"], "many": [],
        "all_taken": [], "ahead": ["seat"], "find": ["place"], "is_ahead": ["one", "other"], "order": []},
    ("sheet", "Sheet"): {
        "__init__": ["text", "hands"], "text": [], "size": [], "shown": [], "many": [], "letter": ["sign"],
        "sign_at": ["place"], "place_of": ["sign"], "is_ahead": ["one", "other"], "put": ["hand", "place", "text"],
        "cut": ["hand", "begin", "end"], "move": ["hand", "begin", "end", "place"], "deeds": [],
        "deed": ["number"], "stands": ["number"], "take_back": ["number"], "do_again": ["number"],
        "last_standing": ["hand"], "last_gone": ["hand"]},
    ("marks", "Marks"): {
        "__init__": ["sheet"], "stick": ["hand", "place"], "drop": ["number"], "sign": ["number"],
        "told": ["number"], "numbers": [], "of": ["hand"], "order": []},
    ("threads", "Threads"): {
        "__init__": ["sheet"], "tie": ["begin", "end"], "drop": ["number"], "told": ["number"], "numbers": [],
        "over": ["place"]},
}
FUNCTIONS = {("undoing", "undo"): ["sheet", "hand"], ("undoing", "redo"): ["sheet", "hand"]}


class Interface(unittest.TestCase):
    def test_each_class_is_defined_in_its_file(self):
        for (file, name), _ in CLASSES.items():
            listed = getattr(importlib.import_module("stickmarks." + file), name)
            self.assertEqual(listed.__module__, "stickmarks." + file)

    def test_each_method_stands_in_its_class_and_takes_what_is_listed(self):
        for (file, name), methods in CLASSES.items():
            listed = getattr(importlib.import_module("stickmarks." + file), name)
            for method, arguments in methods.items():
                self.assertIn(method, vars(listed))
                told = inspect.signature(vars(listed)[method]).parameters.values()
                self.assertEqual([one.name for one in told], ["self"] + arguments, method)
                self.assertTrue(all(one.default is one.empty for one in told), method)

    def test_each_function_is_defined_in_its_file_and_takes_what_is_listed(self):
        for (file, name), arguments in FUNCTIONS.items():
            listed = getattr(importlib.import_module("stickmarks." + file), name)
            self.assertEqual(listed.__module__, "stickmarks." + file)
            told = inspect.signature(listed).parameters.values()
            self.assertEqual([one.name for one in told], arguments, name)
            self.assertTrue(all(one.default is one.empty for one in told), name)
