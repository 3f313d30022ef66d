"""The rules of the language that can be counted: what is checked here needs no reader."""

import ast
import builtins
import pathlib
import unittest

PACKAGE = pathlib.Path(__file__).resolve().parent.parent / "stickmarks"
FILES = sorted(path for path in PACKAGE.rglob("*") if path.is_file() and "__pycache__" not in path.parts)
SIGNS = {chr(code) for code in range(32, 127)} | {"\n"}
LET_BUILTINS = set(
    "len range enumerate zip min max sum abs sorted reversed int str bool list tuple dict set isinstance ord repr any "
    "all divmod type map iter next Exception ValueError TypeError KeyError IndexError LookupError ZeroDivisionError "
    "ArithmeticError OverflowError RuntimeError NotImplementedError AttributeError StopIteration".split())
# Of the methods of builtin values, those that the rules leave out.
LET_METHODS = set(
    "append clear copy count endswith extend find get index insert isalnum isalpha isdigit islower isspace isupper "
    "items join keys ljust lower lstrip partition pop remove replace reverse rfind rjust rpartition rsplit rstrip "
    "setdefault split splitlines startswith strip update upper values zfill bit_length add discard sort".split())
BARRED_METHODS = {name for kind in (str, int, list, dict, set, tuple, bytes) for name in dir(kind)} - LET_METHODS
BARRED_NODES = (
    ast.AsyncFunctionDef, ast.AsyncFor, ast.AsyncWith, ast.Await, ast.Div, ast.Global, ast.Import, ast.MatMult,
    ast.Starred, ast.JoinedStr, ast.Yield, ast.YieldFrom, ast.GeneratorExp)
BARRED_WORDS = {"register", "mro", "elements", "open", "input", "law", "version_info", "with_traceback", "add_note"}


def trees():
    return [(path, ast.parse(path.read_text())) for path in FILES]


class Language(unittest.TestCase):
    def each(self, *kinds):
        """Each node of these kinds, with its file and line."""
        for path, tree in trees():
            for node in ast.walk(tree):
                if isinstance(node, kinds):
                    yield f"{path.name}:{getattr(node, 'lineno', 0)}", node

    def test_the_folder_contains_only_files_of_python(self):
        self.assertGreater(len(FILES), 0)
        self.assertEqual([path for path in FILES if path.suffix != ".py"], [])
        self.assertIn(PACKAGE / "__init__.py", FILES)

    def test_signs_lines_and_sizes(self):
        for path in FILES:
            text = path.read_text()
            self.assertEqual(set(text) - SIGNS, set(), path)
            lines = text.split("\n")
            self.assertLessEqual(len(lines), 399, path)
            self.assertLessEqual(max(len(line) for line in lines), 120, path)
        for where, node in self.each(ast.FunctionDef):
            self.assertLessEqual(node.end_lineno - node.lineno + 1, 40, where)

    def test_imports_are_of_the_package_by_full_names(self):
        for where, node in self.each(ast.ImportFrom):
            self.assertEqual((node.level, node.module.split(".")[0]), (0, "stickmarks"), where)
            for name in node.names:
                self.assertIsNone(name.asname, where)
                source = PACKAGE.parent.joinpath(*node.module.split(".")).with_suffix(".py")
                defined = [getattr(one, "name", None) for one in ast.parse(source.read_text()).body]
                self.assertIn(name.name, defined, where)

    def test_nothing_of_what_the_package_does_without(self):
        self.assertEqual([where for where, _ in self.each(*BARRED_NODES)], [])

    def test_builtins_and_methods(self):
        for where, node in self.each(ast.Name):
            if hasattr(builtins, node.id):
                self.assertIn(node.id, LET_BUILTINS, where)
                self.assertIsInstance(node.ctx, ast.Load, where)
            self.assertNotIn(node.id, BARRED_WORDS, where)
        for where, node in self.each(ast.Attribute):
            self.assertNotIn(node.attr, BARRED_METHODS | BARRED_WORDS, where)
        for where, node in self.each(ast.arg):
            self.assertFalse(hasattr(builtins, node.arg) or node.arg in BARRED_WORDS, where)

    def test_is_stands_beside_none_true_and_false_alone(self):
        for where, node in self.each(ast.Compare):
            for sign, right in zip(node.ops, node.comparators):
                if isinstance(sign, (ast.Is, ast.IsNot)):
                    self.assertTrue(isinstance(right, ast.Constant) and right.value in (None, True, False), where)

    def test_texts_and_numbers_that_are_written_out(self):
        for where, node in self.each(ast.Constant):
            self.assertNotIsInstance(node.value, (float, complex), where)
            if isinstance(node.value, str):
                self.assertNotIn(chr(37), node.value, where)

    def test_no_decorator_and_no_default_beyond_plain_values(self):
        for where, node in self.each(ast.FunctionDef, ast.ClassDef):
            self.assertEqual(node.decorator_list, [], where)
        for where, node in self.each(ast.FunctionDef):
            self.assertTrue(all(isinstance(one, ast.Constant) for one in node.args.defaults), where)

    def test_no_name_is_a_method_and_an_attribute(self):
        methods = {one.name for _, node in self.each(ast.ClassDef) for one in node.body
                   if isinstance(one, ast.FunctionDef)}
        for where, node in self.each(ast.Attribute):
            if isinstance(node.ctx, ast.Store):
                self.assertNotIn(node.attr, methods, where)
