"""Some of the language's rules that a test can see in each file of the package (L1, L2, L5, L7, L8, L10, L14 to L18, L20)."""

import ast
import builtins
import unittest
from pathlib import Path

PACKAGE = Path(__file__).resolve().parent.parent / "ringshares"

BUILTINS = set("""
len range enumerate zip min max sum abs sorted reversed int str bool bytes list tuple dict set frozenset isinstance
ord repr any all divmod pow getattr hasattr setattr iter next map super property staticmethod classmethod object
Exception ValueError TypeError KeyError IndexError LookupError ZeroDivisionError ArithmeticError OverflowError
RuntimeError NotImplementedError AttributeError StopIteration NotImplemented
""".split())

LIBRARY = {"heapq", "math", "itertools", "collections", "__future__"}

BARRED_NAMES = set("""
register mro elements open input law version_info with_traceback add_note attrgetter breakpoint builtins compile
copyright credits delattr dir eval exec exit gc globals help id importlib license locals methodcaller os quit type vars sys
""".split())

BARRED = (ast.Global, ast.AsyncFunctionDef, ast.Await, ast.Import, ast.Div, ast.GeneratorExp)


def files():
    return sorted(path for path in PACKAGE.rglob("*") if path.is_file() and "__pycache__" not in path.parts)


def defined_in(path):
    """Returns the names that a file itself defines at module level."""
    found = set()
    for node in ast.parse(path.read_text()).body:
        if isinstance(node, (ast.FunctionDef, ast.ClassDef)):
            found.add(node.name)
        if isinstance(node, ast.Assign):
            found.update(target.id for target in node.targets)
    return found


def functions_in(path):
    return [node for node in ast.walk(ast.parse(path.read_text())) if isinstance(node, ast.FunctionDef)]


def named_in(function):
    """Returns the names of the parameters and of the variables of a function."""
    stored = [node.id for node in ast.walk(function) if isinstance(node, ast.Name) and isinstance(node.ctx, ast.Store)]
    return {parameter.arg for parameter in function.args.args} | set(stored)


def imported_by(path):
    tree = ast.parse(path.read_text())
    return {name.name for node in tree.body if isinstance(node, ast.ImportFrom) for name in node.names}


class Language(unittest.TestCase):
    def test_files_are_plain_and_small(self):
        self.assertIn(PACKAGE / "__init__.py", files())
        for path in files():
            self.assertEqual(path.suffix, ".py")
            text = path.read_bytes().decode("ascii")
            self.assertTrue(all(sign == "\n" or " " <= sign <= "~" for sign in text), path)
            self.assertLessEqual(len(text.split("\n")) - 1, 399, path)
            self.assertLessEqual(max(len(line) for line in text.split("\n")), 120, path)

    def test_functions_are_small(self):
        for path in files():
            for node in ast.walk(ast.parse(path.read_text())):
                if isinstance(node, ast.FunctionDef):
                    self.assertLessEqual(node.end_lineno - node.lineno + 1, 40, (path, node.name))

    def test_imports_name_the_file_that_defines(self):
        for path in files():
            for node in ast.walk(ast.parse(path.read_text())):
                if isinstance(node, ast.ImportFrom) and node.module not in LIBRARY:
                    folder, name = node.module.split(".")
                    self.assertEqual((node.level, folder), (0, "ringshares"), path)
                    for word in node.names:
                        self.assertIn(word.name, defined_in(PACKAGE / (name + ".py")), path)

    def test_only_words_of_the_language(self):
        for path in files():
            for node in ast.walk(ast.parse(path.read_text())):
                self.assertNotIsInstance(node, BARRED, path)
                if isinstance(node, ast.Constant):
                    self.assertNotIsInstance(node.value, (float, complex), path)
                if isinstance(node, ast.Name) and hasattr(builtins, node.id):
                    self.assertIn(node.id, BUILTINS, path)

    def test_names_mean_one_thing(self):
        for path in files():
            classes = {node.name for node in ast.parse(path.read_text()).body if isinstance(node, ast.ClassDef)}
            for function in functions_in(path):
                for name in named_in(function):
                    self.assertNotIn(name, imported_by(path) | classes | BARRED_NAMES, (path, function.name))
                    self.assertFalse(hasattr(builtins, name), (path, function.name, name))

    def test_all_that_is_imported_is_used(self):
        for path in files():
            used = {node.id for node in ast.walk(ast.parse(path.read_text())) if isinstance(node, ast.Name)}
            self.assertEqual(imported_by(path) - used, set(), path)

    def test_properties_methods_and_attributes_have_other_names(self):
        properties, methods, attributes = set(), set(), set()
        for path in files():
            for function in functions_in(path):
                if function.args.args and function.args.args[0].arg == "self":
                    is_property = [mark.id for mark in function.decorator_list] == ["property"]
                    (properties if is_property else methods).add(function.name)
            for node in ast.walk(ast.parse(path.read_text())):
                if isinstance(node, ast.Attribute) and isinstance(node.ctx, ast.Store):
                    attributes.add(node.attr)
        for one, other in ((properties, methods), (properties, attributes), (methods, attributes)):
            self.assertEqual(one & other, set())
        self.assertEqual({name for name in properties if hasattr(str, name) or hasattr(list, name) or hasattr(dict, name)}, set())

    def test_is_asks_for_none_alone(self):
        for path in files():
            for node in ast.walk(ast.parse(path.read_text())):
                if isinstance(node, ast.Compare) and any(isinstance(sign, (ast.Is, ast.IsNot)) for sign in node.ops):
                    self.assertEqual([ast.unparse(value) for value in node.comparators], ["None"], path)


if __name__ == "__main__":
    unittest.main()
