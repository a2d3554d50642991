"""Some of the language's rules that a test can see in each file of the package (L1, L2, L7, L8, L10, L14, L16)."""

import ast
import builtins
import unittest
from pathlib import Path

PACKAGE = Path(__file__).resolve().parent.parent / "ringshares"

BUILTINS = set("""
len range enumerate zip min max sum abs sorted reversed int str bool bytes list tuple dict set frozenset isinstance
ord repr any all divmod pow getattr hasattr setattr iter next map super property staticmethod classmethod object
Exception ValueError TypeError KeyError IndexError LookupError ZeroDivisionError ArithmeticError OverflowError
RuntimeError NotImplementedError AttributeError StopIteration NotImplemented
""".split())

LIBRARY = {"heapq", "math", "itertools", "collections", "__future__"}

BARRED = (ast.Global, ast.AsyncFunctionDef, ast.Await, ast.Import, ast.Div, ast.GeneratorExp)


def files():
    return sorted(path for path in PACKAGE.rglob("*") if path.is_file() and "__pycache__" not in path.parts)


def defined_in(path):
    """Returns the names that a file itself defines at module level."""
    found = set()
    for node in ast.parse(path.read_text()).body:
        if isinstance(node, (ast.FunctionDef, ast.ClassDef)):
            found.add(node.name)
        if isinstance(node, ast.Assign):
            found.update(target.id for target in node.targets)
    return found


class Language(unittest.TestCase):
    def test_files_are_plain_and_small(self):
        self.assertIn(PACKAGE / "__init__.py", files())
        for path in files():
            self.assertEqual(path.suffix, ".py")
            text = path.read_bytes().decode("ascii")
            self.assertTrue(all(sign == "\n" or " " <= sign <= "~" for sign in text), path)
            self.assertLessEqual(len(text.split("\n")) - 1, 399, path)
            self.assertLessEqual(max(len(line) for line in text.split("\n")), 120, path)

    def test_functions_are_small(self):
        for path in files():
            for node in ast.walk(ast.parse(path.read_text())):
                if isinstance(node, ast.FunctionDef):
                    self.assertLessEqual(node.end_lineno - node.lineno + 1, 40, (path, node.name))

    def test_imports_name_the_file_that_defines(self):
        for path in files():
            for node in ast.walk(ast.parse(path.read_text())):
                if isinstance(node, ast.ImportFrom) and node.module not in LIBRARY:
                    folder, name = node.module.split(".")
                    self.assertEqual((node.level, folder), (0, "ringshares"), path)
                    for word in node.names:
                        self.assertIn(word.name, defined_in(PACKAGE / (name + ".py")), path)

    def test_only_words_of_the_language(self):
        for path in files():
            for node in ast.walk(ast.parse(path.read_text())):
                self.assertNotIsInstance(node, BARRED, path)
                if isinstance(node, ast.Constant):
                    self.assertNotIsInstance(node.value, (float, complex), path)
                if isinstance(node, ast.Name) and hasattr(builtins, node.id):
                    self.assertIn(node.id, BUILTINS, path)


if __name__ == "__main__":
    unittest.main()
