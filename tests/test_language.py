"""Some rules of the language subset that are easily checked by a program."""

import ast
import unittest
from pathlib import Path

PACKAGE = Path(__file__).resolve().parent.parent / "keepapart"
LIBRARY = {"math": {"gcd", "lcm"}}


class Files(unittest.TestCase):
    def setUp(self):
        self.files = {path: path.read_text(encoding="utf-8") for path in sorted(PACKAGE.rglob("*.py"))}
        self.assertIn(PACKAGE / "__init__.py", self.files)

    def test_nothing_else_in_the_package(self):
        others = [path for path in PACKAGE.rglob("*")
                  if path.is_file() and path.suffix != ".py" and "__pycache__" not in path.parts]
        self.assertEqual(others, [])

    def test_characters_and_sizes(self):
        for path, text in self.files.items():
            self.assertTrue(all(sign == "\n" or " " <= sign <= "~" for sign in text), path)
            self.assertLessEqual(text.count("\n"), 399, path)
            self.assertLessEqual(max(len(line) for line in text.split("\n")), 120, path)

    def test_functions_are_small(self):
        for path, text in self.files.items():
            for node in ast.walk(ast.parse(text)):
                if isinstance(node, ast.FunctionDef):
                    self.assertLessEqual(node.end_lineno - node.lineno + 1, 40, (path, node.name))

    def test_lengths_are_not_those_of_ranges(self):
        for path, text in self.files.items():
            for node in ast.walk(ast.parse(text)):
                if isinstance(node, ast.FunctionDef) and node.name == "__len__":
                    self.assertNotIn("len(range(", ast.unparse(node), path)

    def test_imports(self):
        for path, text in self.files.items():
            for node in ast.walk(ast.parse(text)):
                self.assertNotIsInstance(node, ast.Import, path)
                if isinstance(node, ast.ImportFrom) and not node.module.startswith("keepapart."):
                    self.assertLessEqual({name.name for name in node.names}, LIBRARY.get(node.module, set()), path)

    def test_no_floats_and_no_division(self):
        for path, text in self.files.items():
            for node in ast.walk(ast.parse(text)):
                self.assertNotIsInstance(node, ast.Div, path)
                self.assertFalse(isinstance(node, ast.Constant) and isinstance(node.value, (float, complex)), path)


if __name__ == "__main__":
    unittest.main()
