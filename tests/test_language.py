"""Those rules for the files of the package that a short test can tell: sizes, signs, imports, statements."""

import ast
import unittest

from tests.samples import PACKAGE

FILES = sorted(path for path in PACKAGE.rglob("*") if "__pycache__" not in path.parts)
LIBRARY = {"heapq", "math", "itertools", "collections"}
BARRED = (ast.AsyncFunctionDef, ast.Await, ast.AsyncFor, ast.AsyncWith, ast.Import, ast.Div)


class LanguageTest(unittest.TestCase):

    def trees(self):
        for path in FILES:
            yield path, ast.parse(path.read_text(encoding="ascii"))

    def test_only_source_files(self):
        for path in FILES:
            self.assertEqual(path.suffix, ".py")
            self.assertEqual(path.name, path.name.lower())
        self.assertIn(PACKAGE / "__init__.py", FILES)

    def test_sizes_and_signs(self):
        for path in FILES:
            text = path.read_text(encoding="ascii")
            lines = text.split("\n")
            self.assertLess(len(lines), 400)
            self.assertLessEqual(max(len(line) for line in lines), 120)
            self.assertTrue(all(sign == "\n" or " " <= sign <= "~" for sign in text), path)

    def test_functions_are_short(self):
        for path, tree in self.trees():
            for node in ast.walk(tree):
                if isinstance(node, ast.FunctionDef):
                    self.assertLessEqual(node.end_lineno - node.lineno + 1, 40, (path, node.name))

    def test_imports(self):
        for path, tree in self.trees():
            for node in ast.walk(tree):
                if isinstance(node, ast.ImportFrom):
                    self.assertEqual(node.level, 0, path)
                    self.assertIn(node.module.split(".")[0], LIBRARY | {"strandsplaited"}, path)

    def test_statements(self):
        for path, tree in self.trees():
            for node in ast.walk(tree):
                self.assertNotIsInstance(node, BARRED, path)
                if isinstance(node, ast.Constant):
                    self.assertNotIsInstance(node.value, (float, complex), path)
                if isinstance(node, (ast.FunctionDef, ast.ClassDef)):
                    self.assertIsNotNone(ast.get_docstring(node) if not node.name.startswith("_") else "", path)

    def test_stars_in_calls_stand_before_names(self):
        for path, tree in self.trees():
            for node in ast.walk(tree):
                for argument in node.args if isinstance(node, ast.Call) else []:
                    if isinstance(argument, ast.Starred):
                        self.assertIsInstance(argument.value, (ast.Name, ast.Attribute), path)

    def test_no_percent_sign_in_a_string(self):
        for path, tree in self.trees():
            for node in ast.walk(tree):
                if isinstance(node, ast.Constant) and isinstance(node.value, str):
                    self.assertNotIn("%", node.value, path)


if __name__ == "__main__":
    unittest.main()
