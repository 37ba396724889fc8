"""The sizes and characters that LANGUAGE.md allows the files of the package (L1, L10, L14)."""

import ast
import unittest
from pathlib import Path

PACKAGE = Path(__file__).resolve().parent.parent / "wishshapes"


class TestFiles(unittest.TestCase):
    def setUp(self):
        self.files = [path for path in sorted(PACKAGE.iterdir()) if path.name != "__pycache__"]

    def test_the_folder_holds_only_modules(self):
        self.assertIn(PACKAGE / "__init__.py", self.files)
        self.assertTrue(all(path.is_file() and path.suffix == ".py" for path in self.files))

    def test_lines_and_characters(self):
        for path in self.files:
            text = path.read_text(encoding="utf-8")
            lines = text.split("\n")
            self.assertLessEqual(len(lines) - 1, 399, path.name)
            for number, line in enumerate(lines, start=1):
                self.assertLessEqual(len(line), 120, f"{path.name}:{number}")
                self.assertTrue(all(" " <= sign <= "~" for sign in line), f"{path.name}:{number}")

    def test_lengths_of_functions(self):
        for path in self.files:
            for node in ast.walk(ast.parse(path.read_text(encoding="utf-8"))):
                if isinstance(node, ast.FunctionDef):
                    self.assertLessEqual(node.end_lineno - node.lineno + 1, 40, f"{path.name}: {node.name}")


if __name__ == "__main__":
    unittest.main()
