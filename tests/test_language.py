"""What can be seen of the language's rules at a glance: files, sizes, characters, imports."""

import ast
import os
import unittest

FOLDER = os.path.join(os.path.dirname(os.path.dirname(os.path.abspath(__file__))), "dittorows")
LIBRARY = {"heapq", "math", "itertools", "collections", "__future__"}


def sources():
    for folder, inner, names in os.walk(FOLDER):
        inner[:] = [name for name in inner if name != "__pycache__"]
        for name in names:
            with open(os.path.join(folder, name), "rb") as file:
                yield name, file.read()


class LanguageTest(unittest.TestCase):

    def test_the_package_contains_python_files_only(self):
        names = [name for name, _ in sources()]
        self.assertIn("__init__.py", names)
        self.assertEqual([name for name in names if not name.endswith(".py") or name.startswith("test")], [])

    def test_files_lines_and_characters(self):
        for name, source in sources():
            with self.subTest(name):
                lines = source.decode("ascii").split("\n")
                self.assertLess(len(lines), 400)
                self.assertLessEqual(max(len(line) for line in lines), 120)
                self.assertEqual([sign for sign in set(source) if not (sign == 10 or 32 <= sign <= 126)], [])

    def test_functions_are_short(self):
        for name, source in sources():
            for node in ast.walk(ast.parse(source)):
                if isinstance(node, ast.FunctionDef):
                    with self.subTest(name + " " + node.name):
                        self.assertLessEqual(node.end_lineno - node.lineno + 1, 40)

    def test_imports(self):
        for name, source in sources():
            for node in ast.walk(ast.parse(source)):
                with self.subTest(name):
                    if isinstance(node, ast.Import):
                        self.assertEqual((name, [kind.name for kind in node.names]), ("__main__.py", ["sys"]))
                    if isinstance(node, ast.ImportFrom):
                        self.assertEqual(node.level, 0)
                        self.assertTrue(node.module.startswith("dittorows.") or node.module in LIBRARY)
                        self.assertNotIn("*", [kind.name for kind in node.names])

    def test_no_percent_sign_and_no_float(self):
        for name, source in sources():
            for node in ast.walk(ast.parse(source)):
                if isinstance(node, ast.Constant):
                    with self.subTest(name):
                        self.assertNotIsInstance(node.value, (float, complex))
                        self.assertFalse(isinstance(node.value, str) and "%" in node.value)
                if isinstance(node, ast.BinOp):
                    self.assertNotIsInstance(node.op, ast.Div)


if __name__ == "__main__":
    unittest.main()
