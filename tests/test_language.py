"""Rules of the language that are plain to count: files, imports, sizes, signs."""

import ast
import unittest
import warnings
from pathlib import Path

PACKAGE = Path(__file__).resolve().parent.parent / "rotorwalk"


def files():
    return sorted(PACKAGE.glob("*.py"))


def tree(path):
    return ast.parse(path.read_text(encoding="ascii"), str(path))


class TheLanguage(unittest.TestCase):
    def test_the_package_is_one_folder_of_files(self):
        found = [path.name for path in PACKAGE.iterdir() if path.name != "__pycache__"]
        self.assertEqual(sorted(found), [path.name for path in files()])
        self.assertIn("__init__.py", found)

    def test_signs_and_lines(self):
        for path in files():
            data = path.read_bytes()
            self.assertEqual({sign for sign in data if not 32 <= sign <= 126} - {10}, set())
            lines = data.decode("ascii").splitlines()
            self.assertLessEqual(len(lines), 399, path)
            self.assertLessEqual(max(map(len, lines)), 120, path)

    def test_functions_are_small(self):
        for path in files():
            for node in ast.walk(tree(path)):
                if isinstance(node, ast.FunctionDef):
                    self.assertLessEqual(node.end_lineno - node.lineno + 1, 40, node.name)

    def test_imports_are_of_the_package_alone(self):
        for path in files():
            for node in ast.walk(tree(path)):
                self.assertNotIsInstance(node, ast.Import, path)
                if isinstance(node, ast.ImportFrom):
                    self.assertEqual(node.level, 0, path)
                    self.assertTrue(node.module.startswith("rotorwalk."), path)

    def test_python_has_no_warning(self):
        for path in files():
            with warnings.catch_warnings():
                warnings.simplefilter("error")
                compile(path.read_text(encoding="ascii"), str(path), "exec")


if __name__ == "__main__":
    unittest.main()
