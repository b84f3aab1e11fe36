"""Some rules of the language subset that a test can see: no replacement for reading the rules."""

import ast
import os
import unittest

import threeways

FOLDER = os.path.dirname(threeways.__file__)

BUILTINS = {
    "len", "range", "enumerate", "zip", "min", "max", "sum", "abs", "sorted", "reversed", "int", "str", "bool",
    "list", "tuple", "dict", "set", "isinstance", "ord", "repr", "any", "all", "divmod", "super", "property", "ValueError",
}

BARRED_NODES = (
    ast.AsyncFunctionDef, ast.AsyncFor, ast.AsyncWith, ast.Await, ast.Import, ast.Global, ast.Div, ast.ImportFrom,
)

BARRED_NAMES = {
    "register", "mro", "elements", "open", "input", "law", "version_info", "id", "dir", "vars", "exec", "eval",
    "globals", "locals", "help", "exit", "quit", "os", "sys", "gc", "license", "credits", "copyright", "print",
}

HIGHEST_FUNCTION, HIGHEST_FILE, WIDEST_LINE = 40, 399, 120


def files():
    for name in sorted(os.listdir(FOLDER)):
        if name != "__pycache__":
            with open(os.path.join(FOLDER, name), encoding="utf-8") as file:
                yield name, file.read()


def is_right_import(node):
    if not isinstance(node, ast.ImportFrom) or node.level != 0 or any(name.asname for name in node.names):
        return False
    names = {name.name for name in node.names}
    return node.module.startswith("threeways.") or node.module == "itertools" and names == {"permutations"}


def names_bound(tree):
    for node in ast.walk(tree):
        if isinstance(node, (ast.FunctionDef, ast.ClassDef)):
            yield node.name
        elif isinstance(node, ast.arg):
            yield node.arg
        elif isinstance(node, ast.Name) and isinstance(node.ctx, ast.Store):
            yield node.id


class LanguageTest(unittest.TestCase):

    def test_only_files_with_plain_names(self):
        for name, _ in files():
            self.assertRegex(name, r"\A[a-z_]+\.py\Z")

    def test_sizes_and_characters(self):
        for name, text in files():
            lines = text.split("\n")
            self.assertLessEqual(len(lines), HIGHEST_FILE, name)
            self.assertLessEqual(max(len(line) for line in lines), WIDEST_LINE, name)
            self.assertTrue(all(" " <= sign <= "~" or sign == "\n" for sign in text), name)
            for node in ast.walk(ast.parse(text)):
                if isinstance(node, ast.FunctionDef):
                    self.assertLessEqual(node.end_lineno - node.lineno + 1, HIGHEST_FUNCTION, node.name)

    def test_statements_and_imports(self):
        for name, text in files():
            for node in ast.walk(ast.parse(text)):
                with self.subTest(file=name, line=getattr(node, "lineno", None)):
                    self.assertTrue(is_right_import(node) or not isinstance(node, BARRED_NODES))
                    self.assertNotIsInstance(getattr(node, "value", None), float)
                    self.assertNotIn("%", str(getattr(node, "value", "")))

    def test_decorators(self):
        for name, text in files():
            for node in ast.walk(ast.parse(text)):
                for decorator in getattr(node, "decorator_list", []):
                    self.assertEqual(ast.unparse(decorator), "property", name)

    def test_module_level(self):
        allowed = (ast.FunctionDef, ast.ClassDef, ast.Assign, ast.ImportFrom)
        for name, text in files():
            docstring, *rest = ast.parse(text).body
            self.assertIsInstance(docstring, ast.Expr, name)
            for node in rest:
                self.assertIsInstance(node, allowed, name)

    def test_names(self):
        builtin_names = set(dir(__builtins__)) if not isinstance(__builtins__, dict) else set(__builtins__)
        for name, text in files():
            tree = ast.parse(text)
            bound = set(names_bound(tree)) - {"__init__"}
            self.assertEqual(bound & (builtin_names | BARRED_NAMES), set(), name)
            used = {node.id for node in ast.walk(tree) if isinstance(node, ast.Name)}
            self.assertEqual((used & builtin_names) - BUILTINS, set(), name)


if __name__ == "__main__":
    unittest.main()
