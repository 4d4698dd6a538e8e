"""Tests of the form of the package's files, as far as it is quickly seen."""

import ast
import pathlib
import unittest

PACKAGE = pathlib.Path(__file__).resolve().parent.parent / "allwhotalk"
LIBRARY = {"heapq", "math", "itertools", "collections"}


def sources():
    return {path.name: path.read_text(encoding="utf-8") for path in sorted(PACKAGE.glob("*.py"))}


class FormTest(unittest.TestCase):
    def test_the_folder_holds_source_files_only(self):
        others = [path.name for path in PACKAGE.iterdir() if path.suffix != ".py"]
        # Python itself makes this folder when the tests are run by hand.
        self.assertEqual([name for name in others if name != "__pycache__"], [])
        self.assertIn("__init__.py", sources())

    def test_sizes_and_signs(self):
        for name, text in sources().items():
            with self.subTest(file=name):
                lines = text.split("\n")
                self.assertLessEqual(len(lines), 399)
                self.assertLessEqual(max([len(line) for line in lines]), 120)
                self.assertEqual([sign for sign in text if sign != "\n" and not " " <= sign <= "~"], [])

    def test_functions_are_short(self):
        for name, text in sources().items():
            for node in ast.walk(ast.parse(text)):
                if isinstance(node, ast.FunctionDef):
                    with self.subTest(file=name, function=node.name):
                        self.assertLessEqual(node.end_lineno - node.lineno + 1, 40)

    def test_imports(self):
        for name, text in sources().items():
            for node in ast.walk(ast.parse(text)):
                with self.subTest(file=name):
                    self.assertNotIsInstance(node, ast.Import)
                    if isinstance(node, ast.ImportFrom):
                        self.assertEqual(node.level, 0)
                        self.assertIn(node.module.split(".")[0], LIBRARY | {"allwhotalk"})


if __name__ == "__main__":
    unittest.main()
