"""Some rules of LANGUAGE.md that are easy to break without noticing."""

import ast
import unittest
from pathlib import Path

PACKAGE = Path(__file__).resolve().parent.parent / "beanjars"
FILES = sorted(PACKAGE.glob("*.py"))
BARRED = {"type", "typing", "enum", "Enum", "Flag", "Generic", "Protocol", "namedtuple", "abstractmethod"}
BUILTINS = {
    "len", "range", "enumerate", "zip", "min", "max", "sum", "abs", "sorted", "reversed", "int", "str", "bool",
    "list", "tuple", "dict", "set", "isinstance", "ord", "repr", "any", "all", "divmod", "iter", "next",
    "NotImplemented", "ValueError", "TypeError", "KeyError", "LookupError", "OverflowError", "RuntimeError",
    "property", "staticmethod", "classmethod", "super",
}


class LanguageTest(unittest.TestCase):
    def test_the_package_contains_only_python_files(self):
        others = [path.name for path in PACKAGE.iterdir() if path.suffix != ".py" and path.name != "__pycache__"]
        self.assertEqual(others, [])
        self.assertIn("__init__.py", [path.name for path in FILES])

    def test_sizes_and_characters(self):
        for path in FILES:
            lines = path.read_text(encoding="utf-8").split("\n")
            self.assertLessEqual(len(lines), 399, path.name)
            for line in lines:
                self.assertLessEqual(len(line), 120, path.name)
                self.assertTrue(all(" " <= character <= "~" for character in line), path.name)

    def test_functions_are_short(self):
        for path in FILES:
            for node in ast.walk(ast.parse(path.read_text(encoding="utf-8"))):
                if isinstance(node, ast.FunctionDef):
                    self.assertLessEqual(node.end_lineno - node.lineno + 1, 40, f"{path.name}: {node.name}")

    def test_imports_are_full_names_of_the_package(self):
        for path in FILES:
            for node in ast.walk(ast.parse(path.read_text(encoding="utf-8"))):
                self.assertNotIsInstance(node, ast.Import, path.name)
                if isinstance(node, ast.ImportFrom):
                    self.assertTrue(node.level == 0 and node.module.startswith("beanjars."), path.name)

    def test_barred_words_and_signs(self):
        for path in FILES:
            text = path.read_text(encoding="utf-8")
            words = set("".join(c if c.isalnum() or c == "_" else " " for c in text).split())
            self.assertEqual(words & BARRED, set(), path.name)
            for node in ast.walk(ast.parse(text)):
                self.assertNotIsInstance(node, (ast.Div, ast.Global, ast.AsyncFunctionDef), path.name)
                if isinstance(node, ast.Constant):
                    self.assertNotIsInstance(node.value, float, path.name)
                    self.assertFalse(isinstance(node.value, str) and "%" in node.value, path.name)

    def test_names_are_plain_and_known(self):
        for path in FILES:
            tree = ast.parse(path.read_text(encoding="utf-8"))
            bound = {node.id for node in ast.walk(tree) if isinstance(node, ast.Name) and
                     isinstance(node.ctx, ast.Store)}
            bound |= {node.arg for node in ast.walk(tree) if isinstance(node, ast.arg)}
            bound |= {alias.name for node in ast.walk(tree) if isinstance(node, ast.ImportFrom)
                      for alias in node.names}
            bound |= {node.name for node in ast.walk(tree) if isinstance(node, (ast.FunctionDef, ast.ClassDef))}
            read = {node.id for node in ast.walk(tree) if isinstance(node, ast.Name)}
            self.assertEqual(read - bound - BUILTINS, set(), path.name)
            self.assertEqual(bound & BUILTINS, set(), path.name)
            self.assertEqual([name for name in bound if name.startswith("_") and not name.endswith("__")], [])

    def test_no_name_is_a_method_and_an_attribute(self):
        methods, attributes = set(), set()
        for path in FILES:
            for node in ast.walk(ast.parse(path.read_text(encoding="utf-8"))):
                if isinstance(node, ast.ClassDef):
                    methods |= {part.name for part in node.body if isinstance(part, ast.FunctionDef)}
                if isinstance(node, ast.Attribute) and isinstance(node.ctx, ast.Store):
                    attributes.add(node.attr)
        self.assertEqual(methods & attributes, set())


if __name__ == "__main__":
    unittest.main()
