"""Tests of the form of the package's files: sizes, characters and imports; and of the examples of README.md."""

import ast
import doctest
import pathlib
import unittest
import warnings

PACKAGE = pathlib.Path(__file__).resolve().parent.parent / "undoamid"
FILES = sorted(PACKAGE.rglob("*.py"))
LIBRARY = {"heapq", "math", "itertools", "collections"}


class TestFiles(unittest.TestCase):
    def test_there_are_only_python_files(self):
        others = [path for path in PACKAGE.rglob("*") if path.is_file() and "__pycache__" not in path.parts]
        self.assertEqual(sorted(others), FILES)

    def test_lines_and_characters(self):
        for path in FILES:
            lines = path.read_text(encoding="utf-8").split("\n")
            with self.subTest(path.name):
                self.assertLessEqual(len(lines), 399)
                for line in lines:
                    self.assertLessEqual(len(line), 120)
                    self.assertTrue(all(" " <= sign <= "~" for sign in line))

    def test_functions_are_short(self):
        for path in FILES:
            for node in ast.walk(ast.parse(path.read_text(encoding="utf-8"))):
                if isinstance(node, ast.FunctionDef):
                    with self.subTest(path.name, name=node.name):
                        self.assertLessEqual(node.end_lineno - node.lineno + 1, 40)

    def test_imports_name_files_of_the_package(self):
        for path in FILES:
            for node in ast.walk(ast.parse(path.read_text(encoding="utf-8"))):
                self.assertNotIsInstance(node, ast.Import)
                if isinstance(node, ast.ImportFrom):
                    with self.subTest(path.name, module=node.module):
                        self.assertTrue(node.module.startswith("undoamid.") or node.module in LIBRARY)

    def test_python_warns_of_nothing(self):
        with warnings.catch_warnings():
            warnings.simplefilter("error")
            for path in FILES:
                compile(path.read_text(encoding="utf-8"), path.name, "exec")

    def test_the_examples_of_the_readme(self):
        found = doctest.testfile(str(PACKAGE.parent / "README.md"), module_relative=False)
        self.assertGreater(found.attempted, 20)
        self.assertEqual(found.failed, 0)


if __name__ == "__main__":
    unittest.main()
