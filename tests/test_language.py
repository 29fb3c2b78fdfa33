"""The language of the package, as far as it is looked at here: plain files, their sizes, their imports, their names."""

import ast
import builtins
import pathlib
import unittest

PACKAGE = pathlib.Path(__file__).resolve().parent.parent / "turingwright"
LIBRARY = {"heapq", "math", "itertools", "collections"}
BARRED = (ast.AsyncFunctionDef, ast.Await, ast.Import, ast.Global, ast.Div)


def bound_names(tree):
    """Return all names that a file binds: those of functions, parameters, classes and variables."""
    names = []
    for node in ast.walk(tree):
        if isinstance(node, (ast.FunctionDef, ast.ClassDef)):
            names.append(node.name)
        elif isinstance(node, ast.arg):
            names.append(node.arg)
        elif isinstance(node, ast.Name) and isinstance(node.ctx, ast.Store):
            names.append(node.id)
    return names


class Language(unittest.TestCase):
    def setUp(self):
        self.files = [(path, path.read_text(encoding="utf-8")) for path in sorted(PACKAGE.glob("*.py"))]

    def test_the_folder_has_nothing_else(self):
        others = [path.name for path in PACKAGE.iterdir() if path.suffix != ".py" and path.name != "__pycache__"]
        self.assertEqual(others, [])
        self.assertTrue((PACKAGE / "__init__.py").exists())

    def test_sizes_and_signs(self):
        for path, text in self.files:
            lines = text.split("\n")
            self.assertLess(len(lines), 400, path.name)
            self.assertLessEqual(max([len(line) for line in lines]), 120, path.name)
            self.assertTrue(all(sign == "\n" or " " <= sign <= "~" for sign in text), path.name)

    def test_functions_are_small(self):
        for path, text in self.files:
            for node in ast.walk(ast.parse(text)):
                if isinstance(node, ast.FunctionDef):
                    self.assertLessEqual(node.end_lineno - node.lineno + 1, 40, (path.name, node.name))
                    self.assertEqual(len(node.decorator_list), 0, (path.name, node.name))

    def test_imports(self):
        for path, text in self.files:
            for node in ast.walk(ast.parse(text)):
                self.assertNotIsInstance(node, BARRED, path.name)
                if isinstance(node, ast.ImportFrom):
                    self.assertEqual(node.level, 0)
                    self.assertTrue(node.module.startswith("turingwright.") or node.module in LIBRARY, node.module)

    def test_no_name_of_a_builtin(self):
        for path, text in self.files:
            names = set(bound_names(ast.parse(text))) & set(dir(builtins))
            self.assertEqual(names, set(), path.name)


if __name__ == "__main__":
    unittest.main()
