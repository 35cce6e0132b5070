"""The package keeps to the subset of the language, as far as a short look can tell."""

import ast
import builtins
import re
import unittest
from pathlib import Path

PACKAGE = Path(__file__).resolve().parent.parent / "surehand"
FILES = sorted(PACKAGE.glob("*.py"))
ALLOWED_BUILTINS = set(
    "len range enumerate zip min max sum abs sorted reversed int str bool bytes list tuple dict set frozenset isinstance"
    " ord repr any all divmod Exception ValueError TypeError KeyError IndexError LookupError ZeroDivisionError"
    " ArithmeticError OverflowError RuntimeError NotImplementedError NotImplemented super iter next".split())
ALLOWED_METHODS = set(
    "append clear copy count endswith extend find get index insert isalnum isalpha isdigit islower isspace isupper items"
    " join keys ljust lower lstrip partition pop remove replace reverse rfind rjust rpartition rsplit rstrip setdefault"
    " split splitlines startswith strip update upper values zfill bit_length add discard".split())
BARRED_WORDS = re.compile(
    r"\b(type|typing|typing_extensions|enum|Enum|IntEnum|StrEnum|Flag|IntFlag|Generic|Protocol|ABC|ABCMeta|namedtuple"
    r"|NamedTuple|TypedDict|TYPE_CHECKING|abstractmethod)\b|dataclass|overload|contextmanager")
BARRED_NAMES = set("register mro elements open input version_info with_traceback add_note exec eval compile exit id"
                   " getattr setattr hasattr delattr vars dir globals locals help quit os sys gc".split())
BARRED_NODES = (ast.Global, ast.AsyncFunctionDef, ast.AsyncFor, ast.AsyncWith, ast.Await, ast.Import, ast.Div)
DOUBLE = set("__init__ __eq__ __repr__ __str__ __len__ __iter__ __call__".split())
LISTS_ONLY = ("any", "all", "min", "max", "sum", "sorted")


def each_file():
    return [(path, list(ast.walk(ast.parse(path.read_text(encoding="utf-8"))))) for path in FILES]


def bound_names(node):
    if isinstance(node, ast.Name) and isinstance(node.ctx, ast.Store):
        return [node.id]
    if isinstance(node, ast.arg):
        return [node.arg]
    if isinstance(node, (ast.FunctionDef, ast.ClassDef)):
        return [node.name]
    return [alias.asname or alias.name for alias in node.names] if isinstance(node, ast.ImportFrom) else []


class TestLanguage(unittest.TestCase):

    def test_files_and_signs(self):
        others = [path.name for path in PACKAGE.iterdir() if path.suffix != ".py" and path.name != "__pycache__"]
        self.assertEqual(others, [])
        for path, _ in each_file():
            text = path.read_text(encoding="utf-8")
            self.assertRegex(path.name, r"^[a-z0-9_]+\.py$")
            self.assertEqual([sign for sign in text if sign != "\n" and not " " <= sign <= "~"], [])
            self.assertLessEqual(len(text.splitlines()), 400)
            self.assertEqual([row for row in text.splitlines() if len(row) > 120], [])
            self.assertIsNone(BARRED_WORDS.search(text))

    def test_size_of_functions(self):
        for _, nodes in each_file():
            for node in nodes:
                if isinstance(node, ast.FunctionDef):
                    self.assertLessEqual(node.end_lineno - node.lineno + 1, 40, node.name)
                    self.assertEqual(node.decorator_list, [])

    def test_statements_and_values(self):
        for _, nodes in each_file():
            for node in nodes:
                self.assertNotIsInstance(node, BARRED_NODES)
                if isinstance(node, ast.Constant):
                    self.assertNotIsInstance(node.value, (float, complex))
                    self.assertNotIn("%", str(node.value))
                if isinstance(node, ast.Compare) and isinstance(node.ops[0], (ast.Is, ast.IsNot)):
                    self.assertIsInstance(node.comparators[0], ast.Constant)
                if isinstance(node, ast.Call) and isinstance(node.func, ast.Name) and node.func.id in LISTS_ONLY:
                    self.assertNotIsInstance(node.args[0], ast.GeneratorExp)

    def test_names(self):
        for _, nodes in each_file():
            in_class = {id(part) for node in nodes if isinstance(node, ast.ClassDef) for part in node.body}
            for node in nodes:
                for name in bound_names(node):
                    if name.startswith("__"):
                        self.assertIn(name, DOUBLE)
                        continue
                    self.assertRegex(name, r"^[A-Za-z][A-Za-z0-9_]*$")
                    self.assertNotIn(name, BARRED_NAMES)
                    if id(node) not in in_class:
                        self.assertFalse(hasattr(builtins, name), name)
                if isinstance(node, ast.Name) and isinstance(node.ctx, ast.Load) and hasattr(builtins, node.id):
                    self.assertIn(node.id, ALLOWED_BUILTINS)

    def test_no_local_name_hides_an_import_or_a_class(self):
        for _, nodes in each_file():
            taken = {name for node in nodes if isinstance(node, (ast.ImportFrom, ast.ClassDef))
                     for name in bound_names(node)}
            for node in nodes:
                if isinstance(node, (ast.Name, ast.arg)):
                    self.assertEqual(taken.intersection(bound_names(node)), set())

    def test_imports(self):
        imported = {}
        for path, nodes in each_file():
            modules = [node.module for node in nodes if isinstance(node, ast.ImportFrom)]
            for module in modules:
                self.assertRegex(module, r"^surehand\.[a-z]+$")
            imported[f"surehand.{path.stem}"] = modules
            self.check_names_are_used(nodes)
        while imported:
            ends = [module for module, froms in imported.items() if not set(froms) & set(imported)]
            self.assertTrue(ends, f"a ring of imports: {sorted(imported)}")
            for module in ends:
                del imported[module]

    def check_names_are_used(self, nodes):
        used = {node.id for node in nodes if isinstance(node, ast.Name)}
        for node in nodes:
            if isinstance(node, ast.ImportFrom):
                self.assertEqual(set(bound_names(node)) - used, set())

    def test_methods_and_attributes(self):
        methods, attributes, called = set(), set(), set()
        for _, nodes in each_file():
            for node in nodes:
                if isinstance(node, ast.ClassDef):
                    methods.update(part.name for part in node.body if isinstance(part, ast.FunctionDef))
                if isinstance(node, ast.Attribute) and isinstance(node.ctx, ast.Store):
                    attributes.add(node.attr)
                if isinstance(node, ast.Call) and isinstance(node.func, ast.Attribute):
                    called.add(node.func.attr)
        self.assertEqual(methods & attributes, set())
        self.assertEqual(called - methods - ALLOWED_METHODS - {"__init__"}, set())


if __name__ == "__main__":
    unittest.main()
