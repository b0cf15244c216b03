"""Some rules of LANGUAGE.md that are easy to break without noticing."""

import ast
import builtins
import unittest
from pathlib import Path

PACKAGE = Path(__file__).resolve().parent.parent / "beanjars"
FILES = sorted(PACKAGE.glob("*.py"))
BARRED = set("""
    type typing typing_extensions enum Enum IntEnum StrEnum Flag IntFlag Generic Protocol ABC ABCMeta namedtuple
    NamedTuple TypedDict TYPE_CHECKING abstractmethod
""".split())
BARRED_PARTS = ("dataclass", "overload", "contextmanager")
NO_NAMES = set("""
    register mro elements open input law version_info with_traceback add_note attrgetter breakpoint builtins compile
    copyright credits delattr dir eval exec exit gc getattr globals hasattr help id importlib license locals
    methodcaller os quit setattr super type vars sys format format_map
""".split())
BUILTINS = {
    "len", "range", "enumerate", "zip", "min", "max", "sum", "abs", "sorted", "reversed", "int", "str", "bool",
    "list", "tuple", "dict", "set", "isinstance", "ord", "repr", "any", "all", "divmod", "iter", "next",
    "NotImplemented", "ValueError", "TypeError", "KeyError", "LookupError", "OverflowError", "RuntimeError",
    "property", "staticmethod", "classmethod", "super",
}
METHODS = set("""
    append clear copy count endswith extend find get index insert isalnum isalpha isdigit islower isspace isupper items
    join keys ljust lower lstrip partition pop remove replace reverse rfind rjust rpartition rsplit rstrip setdefault
    split splitlines startswith strip update upper values zfill bit_length
""".split())
AT_ONCE = {"zip", "enumerate", "reversed", "range", "items", "keys", "values"}
TAKERS = {"list", "tuple", "dict", "sorted", "sum", "any", "all", "enumerate", "zip", "min", "max", "len", "reversed"}
NOT_ALLOWED = (
    ast.GeneratorExp, ast.SetComp, ast.Set, ast.YieldFrom, ast.Await, ast.Import, ast.With, ast.Match, ast.Nonlocal,
    ast.NamedExpr, ast.Lambda, ast.Starred, ast.Delete, ast.Pow, ast.AnnAssign,
)


def trees():
    """The name and the tree of each file."""
    return [(path.name, ast.parse(path.read_text(encoding="utf-8"))) for path in FILES]


def functions_in(tree):
    return [node for node in ast.walk(tree) if isinstance(node, ast.FunctionDef)]


def called_name(node):
    """The name of what a call calls, also of a method."""
    return node.func.id if isinstance(node.func, ast.Name) else getattr(node.func, "attr", None)


def own_names():
    """The names of all methods and attributes that the package defines."""
    names = set()
    for _, tree in trees():
        for node in ast.walk(tree):
            if isinstance(node, ast.ClassDef):
                names |= {part.name for part in node.body if isinstance(part, ast.FunctionDef)}
            if isinstance(node, ast.Attribute) and isinstance(node.ctx, ast.Store):
                names.add(node.attr)
    return names


def bound_in(function):
    """The names of the parameters and local variables of a function."""
    names = {node.id for node in ast.walk(function) if isinstance(node, ast.Name) and isinstance(node.ctx, ast.Store)}
    return names | {node.arg for node in ast.walk(function) if isinstance(node, ast.arg)}


class LanguageTest(unittest.TestCase):
    def test_the_package_contains_only_python_files(self):
        others = [path.name for path in PACKAGE.iterdir() if path.suffix != ".py" and path.name != "__pycache__"]
        self.assertEqual(others, [])
        self.assertIn("__init__.py", [path.name for path in FILES])

    def test_sizes_and_characters(self):
        for path in FILES:
            lines = path.read_text(encoding="utf-8").split("\n")
            self.assertLessEqual(len(lines), 399, path.name)
            for line in lines:
                self.assertLessEqual(len(line), 120, path.name)
                self.assertTrue(all(" " <= character <= "~" for character in line), path.name)

    def test_functions_are_short(self):
        for path in FILES:
            for node in ast.walk(ast.parse(path.read_text(encoding="utf-8"))):
                if isinstance(node, ast.FunctionDef):
                    self.assertLessEqual(node.end_lineno - node.lineno + 1, 40, f"{path.name}: {node.name}")

    def test_imports_are_full_names_of_the_package(self):
        for path in FILES:
            for node in ast.walk(ast.parse(path.read_text(encoding="utf-8"))):
                self.assertNotIsInstance(node, ast.Import, path.name)
                if isinstance(node, ast.ImportFrom):
                    self.assertTrue(node.level == 0 and node.module.startswith("beanjars."), path.name)

    def test_barred_words_and_signs(self):
        for path in FILES:
            text = path.read_text(encoding="utf-8")
            words = set("".join(c if c.isalnum() or c == "_" else " " for c in text).split())
            self.assertEqual(words & BARRED, set(), path.name)
            self.assertEqual([part for part in BARRED_PARTS if part in text], [], path.name)
            for node in ast.walk(ast.parse(text)):
                self.assertNotIsInstance(node, (ast.Div, ast.Global, ast.AsyncFunctionDef), path.name)
                if isinstance(node, ast.Constant):
                    self.assertNotIsInstance(node.value, float, path.name)
                    self.assertFalse(isinstance(node.value, str) and "%" in node.value, path.name)

    def test_names_are_plain_and_known(self):
        for path in FILES:
            tree = ast.parse(path.read_text(encoding="utf-8"))
            bound = {node.id for node in ast.walk(tree) if isinstance(node, ast.Name) and
                     isinstance(node.ctx, ast.Store)}
            bound |= {node.arg for node in ast.walk(tree) if isinstance(node, ast.arg)}
            bound |= {alias.name for node in ast.walk(tree) if isinstance(node, ast.ImportFrom)
                      for alias in node.names}
            bound |= {node.name for node in ast.walk(tree) if isinstance(node, (ast.FunctionDef, ast.ClassDef))}
            read = {node.id for node in ast.walk(tree) if isinstance(node, ast.Name)}
            self.assertEqual(read - bound - BUILTINS, set(), path.name)
            self.assertEqual(bound & BUILTINS, set(), path.name)
            self.assertEqual([name for name in bound if name.startswith("_") and not name.endswith("__")], [])

    def test_no_parts_of_the_language_that_need_care(self):
        # LANGUAGE.md allows some of these in some places; so far the package does without all of them.
        for name, tree in trees():
            for node in ast.walk(tree):
                self.assertNotIsInstance(node, NOT_ALLOWED, name)

    def test_only_own_errors_are_caught(self):
        own = {node.name for name, tree in trees() if name == "errors.py" for node in tree.body
               if isinstance(node, ast.ClassDef)}
        for name, tree in trees():
            for node in ast.walk(tree):
                if isinstance(node, ast.Try):
                    self.assertEqual((node.orelse, node.finalbody), ([], []), name)
                    for handler in node.handlers:
                        self.assertIn(handler.type.id, own, name)
                        self.assertIsNone(handler.name, name)
                if isinstance(node, ast.Raise):
                    self.assertTrue(isinstance(node.exc, ast.Call) and isinstance(node.exc.func, ast.Name), name)
                    self.assertIn(node.exc.func.id, own | {"TypeError"}, name)
                    self.assertTrue(node.cause is None or node.cause.value is None, name)

    def test_generators_are_methods_that_the_package_does_not_call(self):
        found = []
        for name, tree in trees():
            plain = [node.value for node in ast.walk(tree) if isinstance(node, ast.Expr)]
            for function in functions_in(tree):
                yields = [node for node in ast.walk(function) if isinstance(node, ast.Yield)]
                self.assertTrue(all(node in plain for node in yields), name)
                if yields:
                    found.append(function.name)
        self.assertEqual(found, ["history"])
        for name, tree in trees():
            self.assertNotIn("history", [called_name(node) for node in ast.walk(tree) if isinstance(node, ast.Call)])

    def test_strings_with_braces_are_simple(self):
        for name, tree in trees():
            for node in ast.walk(tree):
                if isinstance(node, ast.FormattedValue):
                    self.assertIsInstance(node.value, ast.Name, name)
                    self.assertEqual(node.conversion, -1, name)

    def test_sets_are_only_measured(self):
        for name, tree in trees():
            calls = [node for node in ast.walk(tree) if isinstance(node, ast.Call)]
            inner = [node.args[0] for node in calls if called_name(node) == "len"]
            for node in calls:
                if called_name(node) in ("set", "frozenset"):
                    self.assertIn(node, inner, name)

    def test_names_that_are_not_used(self):
        for name, tree in trees():
            used = {node.id for node in ast.walk(tree) if isinstance(node, ast.Name)}
            used |= {node.arg for node in ast.walk(tree) if isinstance(node, (ast.arg, ast.keyword))}
            used |= {node.attr for node in ast.walk(tree) if isinstance(node, ast.Attribute)}
            used |= {node.name for node in ast.walk(tree) if isinstance(node, (ast.FunctionDef, ast.ClassDef))}
            self.assertEqual(used & NO_NAMES, set(), name)

    def test_what_a_loop_iterates_over_is_not_changed_in_it(self):
        changing = {"append", "clear", "extend", "insert", "pop", "remove", "reverse", "setdefault", "update"}
        for name, tree in trees():
            for loop in ast.walk(tree):
                if not isinstance(loop, ast.For):
                    continue
                over = {ast.dump(node).replace("Store", "Load") for node in ast.walk(loop.iter)
                        if isinstance(node, (ast.Name, ast.Attribute))}
                for node in [inner for part in loop.body for inner in ast.walk(part)]:
                    target = None
                    if isinstance(node, ast.Call) and called_name(node) in changing:
                        target = node.func.value
                    if isinstance(node, (ast.Subscript, ast.Attribute)) and isinstance(node.ctx, ast.Store):
                        target = node.value
                    if target is not None:
                        self.assertNotIn(ast.dump(target), over, f"{name}:{node.lineno}")

    def test_is_stands_beside_none_only(self):
        for name, tree in trees():
            for node in ast.walk(tree):
                if isinstance(node, ast.Compare):
                    for sign, right in zip(node.ops, node.comparators):
                        if isinstance(sign, (ast.Is, ast.IsNot)):
                            self.assertIsInstance(right, ast.Constant, name)
                            self.assertIn(right.value, (None, True, False), name)

    def test_methods_and_attributes_are_known(self):
        known = own_names() | METHODS
        for name, tree in trees():
            for node in ast.walk(tree):
                if isinstance(node, ast.Attribute):
                    self.assertIn(node.attr, known, name)

    def test_what_is_iterated_at_once_is_not_kept(self):
        for name, tree in trees():
            fine = set()
            for node in ast.walk(tree):
                if isinstance(node, (ast.For, ast.comprehension)):
                    fine.add(node.iter)
                if isinstance(node, ast.Call) and isinstance(node.func, ast.Name) and node.func.id in TAKERS:
                    fine.update(node.args[:1])
            for node in ast.walk(tree):
                if isinstance(node, ast.Call) and called_name(node) in AT_ONCE:
                    self.assertIn(node, fine, f"{name}:{node.lineno}")

    def test_local_names_hide_nothing(self):
        for name, tree in trees():
            taken = {alias.name for node in ast.walk(tree) if isinstance(node, ast.ImportFrom) for alias in node.names}
            taken |= {node.name for node in tree.body if isinstance(node, (ast.ClassDef, ast.FunctionDef))}
            for function in functions_in(tree):
                self.assertEqual(bound_in(function) & (taken | set(dir(builtins))), set(), f"{name}: {function.name}")

    def test_module_level_names_are_bound_once(self):
        for name, tree in trees():
            names = [alias.name for node in tree.body if isinstance(node, ast.ImportFrom) for alias in node.names]
            names += [node.name for node in tree.body if isinstance(node, (ast.ClassDef, ast.FunctionDef))]
            names += [node.targets[0].id for node in tree.body if isinstance(node, ast.Assign)]
            self.assertEqual(len(names), len(set(names)), name)
            self.assertEqual(set(names) & set(dir(builtins)), set(), name)

    def test_imports_name_the_defining_file_and_form_no_circle(self):
        defined, needs = {}, {}
        for name, tree in trees():
            here = "beanjars." + name[:-3]
            defined[here] = {node.name for node in tree.body if isinstance(node, (ast.ClassDef, ast.FunctionDef))}
            defined[here] |= {node.targets[0].id for node in tree.body if isinstance(node, ast.Assign)}
            needs[here] = {node.module for node in tree.body if isinstance(node, ast.ImportFrom)}
        for name, tree in trees():
            for node in tree.body:
                if isinstance(node, ast.ImportFrom):
                    self.assertLessEqual({alias.name for alias in node.names}, defined[node.module], name)
        while needs:
            free = [name for name, needed in needs.items() if not needed & set(needs)]
            self.assertTrue(free, needs)
            for name in free:
                del needs[name]

    def test_all_imports_are_used(self):
        for name, tree in trees():
            read = {node.id for node in ast.walk(tree) if isinstance(node, ast.Name)}
            for node in tree.body:
                if isinstance(node, ast.ImportFrom):
                    self.assertEqual({alias.name for alias in node.names} - read, set(), name)

    def test_everything_is_described(self):
        for name, tree in trees():
            self.assertTrue(ast.get_docstring(tree), name)
            for node in ast.walk(tree):
                plain = isinstance(node, ast.FunctionDef) and not node.name.startswith("__")
                if plain or isinstance(node, ast.ClassDef):
                    self.assertTrue(ast.get_docstring(node), f"{name}: {node.name}")

    def test_no_name_is_a_method_and_an_attribute(self):
        methods, attributes = set(), set()
        for path in FILES:
            for node in ast.walk(ast.parse(path.read_text(encoding="utf-8"))):
                if isinstance(node, ast.ClassDef):
                    methods |= {part.name for part in node.body if isinstance(part, ast.FunctionDef)}
                if isinstance(node, ast.Attribute) and isinstance(node.ctx, ast.Store):
                    attributes.add(node.attr)
        self.assertEqual(methods & attributes, set())


if __name__ == "__main__":
    unittest.main()
